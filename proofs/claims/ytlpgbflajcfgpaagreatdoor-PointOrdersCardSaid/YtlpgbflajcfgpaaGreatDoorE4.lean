/-
  What only some of the statements need.
-/
import Derived.Test.YtlpgbflajcfgpaaGreatDoorB1
import Derived.Test.YtlpgbflajcfgpaaGreatDoorCut
import Derived.Test.YtlpgbflajcfgpaaGreatDoorDivLong
import Derived.Test.YtlpgbflajcfgpaaGreatDoorE1
import Derived.Test.YtlpgbflajcfgpaaGreatDoorE2
import Derived.Test.YtlpgbflajcfgpaaGreatDoorE3
import Derived.Test.YtlpgbflajcfgpaaGreatDoorFormI
import Derived.Test.YtlpgbflajcfgpaaGreatDoorK1
import Derived.Test.YtlpgbflajcfgpaaGreatDoorK10
import Derived.Test.YtlpgbflajcfgpaaGreatDoorK11
import Derived.Test.YtlpgbflajcfgpaaGreatDoorK2
import Derived.Test.YtlpgbflajcfgpaaGreatDoorK3
import Derived.Test.YtlpgbflajcfgpaaGreatDoorK4
import Derived.Test.YtlpgbflajcfgpaaGreatDoorK5
import Derived.Test.YtlpgbflajcfgpaaGreatDoorK6
import Derived.Test.YtlpgbflajcfgpaaGreatDoorK7
import Derived.Test.YtlpgbflajcfgpaaGreatDoorK8
import Derived.Test.YtlpgbflajcfgpaaGreatDoorK9
import Derived.Test.YtlpgbflajcfgpaaGreatDoorL8
import Derived.Test.YtlpgbflajcfgpaaGreatDoorLaid5
import Derived.Test.YtlpgbflajcfgpaaGreatDoorN1
import Derived.Test.YtlpgbflajcfgpaaGreatDoorOrd
import Derived.Test.YtlpgbflajcfgpaaGreatDoorPhase
import Derived.Test.YtlpgbflajcfgpaaGreatDoorPtA
import Derived.Test.YtlpgbflajcfgpaaGreatDoorPtC
import Derived.Test.YtlpgbflajcfgpaaGreatDoorPtG
import Derived.Test.YtlpgbflajcfgpaaGreatDoorPtK
import Derived.Test.YtlpgbflajcfgpaaGreatDoorPtR
import Derived.Test.YtlpgbflajcfgpaaGreatDoorR1
import Derived.Test.YtlpgbflajcfgpaaGreatDoorRatA
import Derived.Test.YtlpgbflajcfgpaaGreatDoorRatC
import Derived.Test.YtlpgbflajcfgpaaGreatDoorRatD
import Derived.Test.YtlpgbflajcfgpaaGreatDoorRatP
import Derived.Test.YtlpgbflajcfgpaaGreatDoorRatR
import Derived.Test.YtlpgbflajcfgpaaGreatDoorRatS
import Derived.Test.YtlpgbflajcfgpaaGreatDoorReads
import Derived.Test.YtlpgbflajcfgpaaGreatDoorS1
import Derived.Test.YtlpgbflajcfgpaaGreatDoorShelf
import Derived.Test.YtlpgbflajcfgpaaGreatDoorT1
import Derived.Test.YtlpgbflajcfgpaaGreatDoorT2
import Derived.Test.YtlpgbflajcfgpaaGreatDoorTextQ
import Derived.Test.YtlpgbflajcfgpaaGreatDoorX1
namespace Go.Proofs.YtlpgbflajcfgpaaGreatDoor
open Go.RowKit

section
variable {A0 A1 A2 A3 A4 A5 A6 A7 D0 D1 D2 D3 D4 D5 D6 D7 : Option Addr} {n0 n1 n2 n3 n4 n5 n6 n7 c0 c1 c2 c3 c4 c5 c6 c7 m0 m1 m2 m3 m4 m5 m6 m7 e0 e1 e2 e3 e4 e5 e6 e7 : Nat} {s0 s1 s2 s3 s4 s5 s6 s7 : Bool} {q0 q1 q2 q3 q4 q5 q6 q7 : Rat} {z z' z0 z1 : Int} {L L0 L1 x x0 x1 y : Nat} {k : Int} {b : Bool} {w : World}
theorem cmpq_cases (a b c d : Rat) : cmpQ a b c d = 1 ∨ cmpQ a b c d = 0 ∨ cmpQ a b c d = -1 := by
  unfold cmpQ
  split
  · rcases rsg_cases (b - d) with ⟨e, _⟩ | ⟨e, _⟩ | ⟨e, _⟩ <;> rw [e] <;> simp
  · rcases rsg_cases (a - c) with ⟨e, _⟩ | ⟨e, _⟩ | ⟨e, _⟩ <;> rw [e] <;> simp
set_option maxRecDepth 100000 in
set_option maxHeartbeats 4000000 in
theorem pbetween_v (h : RQ w s0 (.slice A0 n0 c0) (.slice D0 m0 e0) q0 L) (h' : RQ w s1 (.slice A1 n1 c1) (.slice D1 m1 e1) q1 L) (k1 : RQ w s2 (.slice A2 n2 c2) (.slice D2 m2 e2) q2 L0) (k1' : RQ w s3 (.slice A3 n3 c3) (.slice D3 m3 e3) q3 L0) (j : RQ w s4 (.slice A4 n4 c4) (.slice D4 m4 e4) q4 L1) (j' : RQ w s5 (.slice A5 n5 c5) (.slice D5 m5 e5) q5 L1) (hL : L ≤ 4000) (hL0 : L0 ≤ 4000) (hL1 : L1 ≤ 4000) (hb : (decide (0 ≤ cmpQ q0 q1 q4 q5 * cmpQ q4 q5 q2 q3) && (oriQ q0 q1 q2 q3 q4 q5 == 0)) = b) :
    Calls Tryz.prog 43 #[.agg #[.bool s0, .slice A0 n0 c0, .slice D0 m0 e0, .bool s1, .slice A1 n1 c1, .slice D1 m1 e1], .agg #[.bool s2, .slice A2 n2 c2, .slice D2 m2 e2, .bool s3, .slice A3 n3 c3, .slice D3 m3 e3], .agg #[.bool s4, .slice A4 n4 c4, .slice D4 m4 e4, .bool s5, .slice A5 n5 c5, .slice D5 m5 e5]] w fun e w' => e = .returned (.bool b) ∧ Below w.heap.size w w' := by
  obtain ⟨ka, hka⟩ : ∃ a, cmpQ q0 q1 q4 q5 = a := ⟨_, rfl⟩
  obtain ⟨kb, hkb⟩ : ∃ a, cmpQ q4 q5 q2 q3 = a := ⟨_, rfl⟩
  obtain ⟨ko, hko⟩ : ∃ a, oriQ q0 q1 q2 q3 q4 q5 = a := ⟨_, rfl⟩
  rw [hka, hkb, hko] at hb
  have HO := Lib.hid hko
  have r1 := cmpq_cases q0 q1 q4 q5
  have r2 := cmpq_cases q4 q5 q2 q3
  rw [hka] at r1
  rw [hkb] at r2
  have E1 := Lib.hid hka
  have E2 := Lib.hid hkb
  clear hka hkb hko
  rcases r1 with rfl | rfl | rfl <;> rcases r2 with rfl | rfl | rfl
  · have hb2 : b = ((ko : Int) == 0) := by rw [← hb]; rfl
    subst hb2
    clear hb
    go_enter Tryz.func43, Tryz.ntmps43
    go_wp2_with fail
    obtain ⟨W0, hW, b0, b1, b2, hbW, hszW0⟩ := boxes3 w #[.bool s0, .slice A0 n0 c0, .slice D0 m0 e0, .bool s1, .slice A1 n1 c1, .slice D1 m1 e1] #[.bool s2, .slice A2 n2 c2, .slice D2 m2 e2, .bool s3, .slice A3 n3 c3, .slice D3 m3 e3] #[.bool s4, .slice A4 n4 c4, .slice D4 m4 e4, .bool s5, .slice A5 n5 c5, .slice D5 m5 e5] 29 29 29
    rw [hW]
    clear hW
    replace h := h.below hbW
    replace h' := h'.below hbW
    replace k1 := k1.below hbW
    replace k1' := k1'.below hbW
    replace j := j.below hbW
    replace j' := j'.below hbW
    have H0 := hbW
    clear hbW
    have hD := drawn_below W0
    replace h := h.below hD
    replace h' := h'.below hD
    replace k1 := k1.below hD
    replace k1' := k1'.below hD
    replace j := j.below hD
    replace j' := j'.below hD
    replace b0 := b0.below hD
    replace b1 := b1.below hD
    replace b2 := b2.below hD
    replace H0 := H0.trans (hD.mono H0.size)
    clear hD
    refine wp_region_noPanic ?_
    refine wp_region_held_drew (S := (fun V => V.cell? ⟨w.heap.size, 0, none⟩ = some (.bool s0) ∧ V.cell? ⟨w.heap.size, 1, none⟩ = some (.slice A0 n0 c0) ∧ V.cell? ⟨w.heap.size, 2, none⟩ = some (.slice D0 m0 e0) ∧ V.cell? ⟨w.heap.size, 3, none⟩ = some (.bool s1) ∧ V.cell? ⟨w.heap.size, 4, none⟩ = some (.slice A1 n1 c1) ∧ V.cell? ⟨w.heap.size, 5, none⟩ = some (.slice D1 m1 e1) ∧ V.cell? ⟨w.heap.size + 1, 0, none⟩ = some (.bool s2) ∧ V.cell? ⟨w.heap.size + 1, 1, none⟩ = some (.slice A2 n2 c2) ∧ V.cell? ⟨w.heap.size + 1, 2, none⟩ = some (.slice D2 m2 e2) ∧ V.cell? ⟨w.heap.size + 1, 3, none⟩ = some (.bool s3) ∧ V.cell? ⟨w.heap.size + 1, 4, none⟩ = some (.slice A3 n3 c3) ∧ V.cell? ⟨w.heap.size + 1, 5, none⟩ = some (.slice D3 m3 e3) ∧ V.cell? ⟨w.heap.size + 1 + 1, 0, none⟩ = some (.bool s4) ∧ V.cell? ⟨w.heap.size + 1 + 1, 1, none⟩ = some (.slice A4 n4 c4) ∧ V.cell? ⟨w.heap.size + 1 + 1, 2, none⟩ = some (.slice D4 m4 e4) ∧ V.cell? ⟨w.heap.size + 1 + 1, 3, none⟩ = some (.bool s5) ∧ V.cell? ⟨w.heap.size + 1 + 1, 4, none⟩ = some (.slice A5 n5 c5) ∧ V.cell? ⟨w.heap.size + 1 + 1, 5, none⟩ = some (.slice D5 m5 e5))) (by kernel_rfl) ⟨b0.cell 0 _ rfl, b0.cell 1 _ rfl, b0.cell 2 _ rfl, b0.cell 3 _ rfl, b0.cell 4 _ rfl, b0.cell 5 _ rfl, b1.cell 0 _ rfl, b1.cell 1 _ rfl, b1.cell 2 _ rfl, b1.cell 3 _ rfl, b1.cell 4 _ rfl, b1.cell 5 _ rfl, b2.cell 0 _ rfl, b2.cell 1 _ rfl, b2.cell 2 _ rfl, b2.cell 3 _ rfl, b2.cell 4 _ rfl, b2.cell 5 _ rfl⟩ (fun hHeld => ?_)
    generalize W0.drew = v1 at H0 hHeld h h' k1 k1' j j' b0 b1 b2 ⊢
    refine wpAnyH_take (i := 0) (v := ?_) rfl (by kernel_rfl) (by kernel_rfl) (by kernel_rfl) (fun _ _ _ h => h) (Or.inl ⟨by rfl, ?_⟩) (by assumption) ?_
    rotate_left
    · (intro w hSw; (try dsimp only at hSw); go_simp; (try with_reducible rfl))
    (try simp only [List.getElem_toArray, List.getElem_cons_zero, Act.put, List.setIfInBounds_toArray, List.set_cons_zero, List.set_cons_succ])
    refine wpAnyH_take (i := 1) (v := ?_) rfl (by kernel_rfl) (by kernel_rfl) (by kernel_rfl) (fun _ _ _ h => h) (Or.inl ⟨by rfl, ?_⟩) (by assumption) ?_
    rotate_left
    · (intro w hSw; (try dsimp only at hSw); go_simp; (try with_reducible rfl))
    (try simp only [List.getElem_toArray, List.getElem_cons_succ, List.getElem_cons_zero, Act.put, List.setIfInBounds_toArray, List.set_cons_zero, List.set_cons_succ])
    refine wpAnyH_take (i := 3) (v := ?_) rfl (by kernel_rfl) (by kernel_rfl) (by kernel_rfl) (fun _ _ _ h => h) (Or.inl ⟨by rfl, ?_⟩) (by assumption) ?_
    rotate_left
    · (intro w hSw; (try dsimp only at hSw); go_simp; (try with_reducible rfl))
    (try simp only [List.getElem_toArray, List.getElem_cons_succ, List.getElem_cons_zero, Act.put, List.setIfInBounds_toArray, List.set_cons_zero, List.set_cons_succ])
    refine wpAnyH_take (i := 4) (v := ?_) rfl (by kernel_rfl) (by kernel_rfl) (by kernel_rfl) (fun _ _ _ h => h) (Or.inl ⟨by rfl, ?_⟩) (by assumption) ?_
    rotate_left
    · (intro w hSw; (try dsimp only at hSw); go_simp; (try with_reducible rfl))
    (try simp only [List.getElem_toArray, List.getElem_cons_succ, List.getElem_cons_zero, Act.put, List.setIfInBounds_toArray, List.set_cons_zero, List.set_cons_succ])
    refine wpAnyH_ready (rs := [2]) (by kernel_rfl) (by simp) (AllReadyH.cons (o := _) rfl (fun K hK => ?_) AllReadyH.nil)
    go_simp
    go_at_call 39
    refine (pcompare_v h h' j j' (by omega) (by omega) E1.out).mono ?_
    rintro e w2 ⟨rfl, hb⟩
    replace h := h.below hb
    replace h' := h'.below hb
    replace k1 := k1.below hb
    replace k1' := k1'.below hb
    replace j := j.below hb
    replace j' := j'.below hb
    replace b0 := b0.below hb
    replace b1 := b1.below hb
    replace b2 := b2.below hb
    replace H0 := H0.trans (hb.mono H0.size)
    clear hb
    go_wp2_with fail
    refine hK.out _ _ ⟨b0.cell 0 _ rfl, b0.cell 1 _ rfl, b0.cell 2 _ rfl, b0.cell 3 _ rfl, b0.cell 4 _ rfl, b0.cell 5 _ rfl, b1.cell 0 _ rfl, b1.cell 1 _ rfl, b1.cell 2 _ rfl, b1.cell 3 _ rfl, b1.cell 4 _ rfl, b1.cell 5 _ rfl, b2.cell 0 _ rfl, b2.cell 1 _ rfl, b2.cell 2 _ rfl, b2.cell 3 _ rfl, b2.cell 4 _ rfl, b2.cell 5 _ rfl⟩ (fun hHeld => ?_)
    clear hK K
    (try simp only [List.getElem_toArray, List.getElem_cons_succ, List.getElem_cons_zero, Act.put, List.setIfInBounds_toArray, List.set_cons_zero, List.set_cons_succ])
    refine wpAnyH_ready (rs := [5]) (by kernel_rfl) (by simp) (AllReadyH.cons (o := _) rfl (fun K hK => ?_) AllReadyH.nil)
    go_simp
    go_at_call 39
    refine (pcompare_v j j' k1 k1' (by omega) (by omega) E2.out).mono ?_
    rintro e w3 ⟨rfl, hb⟩
    replace h := h.below hb
    replace h' := h'.below hb
    replace k1 := k1.below hb
    replace k1' := k1'.below hb
    replace j := j.below hb
    replace j' := j'.below hb
    replace b0 := b0.below hb
    replace b1 := b1.below hb
    replace b2 := b2.below hb
    replace H0 := H0.trans (hb.mono H0.size)
    clear hb
    go_wp2_with fail
    refine hK.out _ _ ⟨b0.cell 0 _ rfl, b0.cell 1 _ rfl, b0.cell 2 _ rfl, b0.cell 3 _ rfl, b0.cell 4 _ rfl, b0.cell 5 _ rfl, b1.cell 0 _ rfl, b1.cell 1 _ rfl, b1.cell 2 _ rfl, b1.cell 3 _ rfl, b1.cell 4 _ rfl, b1.cell 5 _ rfl, b2.cell 0 _ rfl, b2.cell 1 _ rfl, b2.cell 2 _ rfl, b2.cell 3 _ rfl, b2.cell 4 _ rfl, b2.cell 5 _ rfl⟩ (fun hHeld => ?_)
    clear hK K
    (try simp only [List.getElem_toArray, List.getElem_cons_succ, List.getElem_cons_zero, Act.put, List.setIfInBounds_toArray, List.set_cons_zero, List.set_cons_succ])
    refine wpAnyH_take (i := 6) (v := ?_) rfl (by kernel_rfl) (by kernel_rfl) (by kernel_rfl) (fun _ _ _ h => h) (Or.inl ⟨by rfl, ?_⟩) (by assumption) ?_
    rotate_left
    · (intro w hSw; (try dsimp only at hSw); go_simp; (try with_reducible rfl))
    (try simp only [List.getElem_toArray, List.getElem_cons_succ, List.getElem_cons_zero, Act.put, List.setIfInBounds_toArray, List.set_cons_zero, List.set_cons_succ])
    refine wpAnyH_take (i := 7) (v := ?_) rfl (by kernel_rfl) (by kernel_rfl) (by kernel_rfl) (fun _ _ _ h => h) (Or.inl ⟨by rfl, ?_⟩) (by assumption) ?_
    rotate_left
    · (intro w hSw; (try dsimp only at hSw); go_simp; (try with_reducible rfl))
    (try simp only [List.getElem_toArray, List.getElem_cons_succ, List.getElem_cons_zero, Act.put, List.setIfInBounds_toArray, List.set_cons_zero, List.set_cons_succ])
    refine wpAnyH_take (i := 8) (v := ?_) rfl (by kernel_rfl) (by kernel_rfl) (by kernel_rfl) (fun _ _ _ h => h) (Or.inl ⟨by rfl, ?_⟩) (by assumption) ?_
    rotate_left
    · (intro w hSw; (try dsimp only at hSw); go_simp; (try with_reducible rfl))
    (try simp only [List.getElem_toArray, List.getElem_cons_succ, List.getElem_cons_zero, Act.put, List.setIfInBounds_toArray, List.set_cons_zero, List.set_cons_succ])
    refine wpAnyH_take (i := 9) (v := ?_) rfl (by kernel_rfl) (by kernel_rfl) (by kernel_rfl) (fun _ _ _ h => h) (Or.inl ⟨by rfl, ?_⟩) (by assumption) ?_
    rotate_left
    · (intro w hSw; (try dsimp only at hSw); go_simp; (try with_reducible rfl))
    (try simp only [List.getElem_toArray, List.getElem_cons_succ, List.getElem_cons_zero, Act.put, List.setIfInBounds_toArray, List.set_cons_zero, List.set_cons_succ])
    refine wpAnyH_take (i := 10) (v := ?_) rfl (by kernel_rfl) (by kernel_rfl) (by kernel_rfl) (fun _ _ _ h => h) (Or.inl ⟨by rfl, ?_⟩) (by assumption) ?_
    rotate_left
    · (intro w hSw; (try dsimp only at hSw); go_simp; (try with_reducible rfl))
    (try simp only [List.getElem_toArray, List.getElem_cons_succ, List.getElem_cons_zero, Act.put, List.setIfInBounds_toArray, List.set_cons_zero, List.set_cons_succ])
    refine wpAnyH_take (i := 11) (v := ?_) rfl (by kernel_rfl) (by kernel_rfl) (by kernel_rfl) (fun _ _ _ h => h) (Or.inl ⟨by rfl, ?_⟩) (by assumption) ?_
    rotate_left
    · (intro w hSw; (try dsimp only at hSw); go_simp; (try with_reducible rfl))
    (try simp only [List.getElem_toArray, List.getElem_cons_succ, List.getElem_cons_zero, Act.put, List.setIfInBounds_toArray, List.set_cons_zero, List.set_cons_succ])
    refine wpAnyH_ready (rs := [12]) (by kernel_rfl) (by simp) (AllReadyH.cons (o := _) rfl (fun K hK => ?_) AllReadyH.nil)
    go_simp
    rw [if_pos (by decide)]
    go_at_call 34
    refine (porient_v h h' k1 k1' j j' (by omega) (by omega) (by omega) HO.out).mono ?_
    rintro e w4 ⟨rfl, hb⟩
    replace h := h.below hb
    replace h' := h'.below hb
    replace k1 := k1.below hb
    replace k1' := k1'.below hb
    replace j := j.below hb
    replace j' := j'.below hb
    replace b0 := b0.below hb
    replace b1 := b1.below hb
    replace b2 := b2.below hb
    replace H0 := H0.trans (hb.mono H0.size)
    clear hb
    go_wp2_with fail
    refine hK.out _ _ ⟨b0.cell 0 _ rfl, b0.cell 1 _ rfl, b0.cell 2 _ rfl, b0.cell 3 _ rfl, b0.cell 4 _ rfl, b0.cell 5 _ rfl, b1.cell 0 _ rfl, b1.cell 1 _ rfl, b1.cell 2 _ rfl, b1.cell 3 _ rfl, b1.cell 4 _ rfl, b1.cell 5 _ rfl, b2.cell 0 _ rfl, b2.cell 1 _ rfl, b2.cell 2 _ rfl, b2.cell 3 _ rfl, b2.cell 4 _ rfl, b2.cell 5 _ rfl⟩ (fun hHeld => ?_)
    clear hK K
    (try simp only [List.getElem_toArray, List.getElem_cons_succ, List.getElem_cons_zero, Act.put, List.setIfInBounds_toArray, List.set_cons_zero, List.set_cons_succ])
    refine wpAnyH_take (i := 13) (v := ?_) rfl (by kernel_rfl) (by kernel_rfl) (by kernel_rfl) (fun _ _ _ h => h) (Or.inl ⟨by rfl, ?_⟩) (by assumption) ?_
    rotate_left
    · (intro w hSw; (try dsimp only at hSw); go_simp; (try with_reducible rfl))
    (try simp only [List.getElem_toArray, List.getElem_cons_succ, List.getElem_cons_zero, Act.put, List.setIfInBounds_toArray, List.set_cons_zero, List.set_cons_succ])
    refine wpAnyH_take (i := 14) (v := ?_) rfl (by kernel_rfl) (by kernel_rfl) (by kernel_rfl) (fun _ _ _ h => h) (Or.inl ⟨by rfl, ?_⟩) (by assumption) ?_
    rotate_left
    · (intro w hSw; (try dsimp only at hSw); go_simp; (try with_reducible rfl))
    (try simp only [List.getElem_toArray, List.getElem_cons_succ, List.getElem_cons_zero, Act.put, List.setIfInBounds_toArray, List.set_cons_zero, List.set_cons_succ])
    refine wpAnyH_take (i := 15) (v := ?_) rfl (by kernel_rfl) (by kernel_rfl) (by kernel_rfl) (fun _ _ _ h => h) (Or.inl ⟨by rfl, ?_⟩) (by assumption) ?_
    rotate_left
    · (intro w hSw; (try dsimp only at hSw); go_simp; (try with_reducible rfl))
    (try simp only [List.getElem_toArray, List.getElem_cons_succ, List.getElem_cons_zero, Act.put, List.setIfInBounds_toArray, List.set_cons_zero, List.set_cons_succ])
    refine wpAnyH_done (by kernel_rfl) ?_ _
    refine NoPanic.normal ?_
    go_wp2_with fail
    go_returns
    exact ⟨rfl, H0⟩
  · have hb2 : b = ((ko : Int) == 0) := by rw [← hb]; rfl
    subst hb2
    clear hb
    go_enter Tryz.func43, Tryz.ntmps43
    go_wp2_with fail
    obtain ⟨W0, hW, b0, b1, b2, hbW, hszW0⟩ := boxes3 w #[.bool s0, .slice A0 n0 c0, .slice D0 m0 e0, .bool s1, .slice A1 n1 c1, .slice D1 m1 e1] #[.bool s2, .slice A2 n2 c2, .slice D2 m2 e2, .bool s3, .slice A3 n3 c3, .slice D3 m3 e3] #[.bool s4, .slice A4 n4 c4, .slice D4 m4 e4, .bool s5, .slice A5 n5 c5, .slice D5 m5 e5] 29 29 29
    rw [hW]
    clear hW
    replace h := h.below hbW
    replace h' := h'.below hbW
    replace k1 := k1.below hbW
    replace k1' := k1'.below hbW
    replace j := j.below hbW
    replace j' := j'.below hbW
    have H0 := hbW
    clear hbW
    have hD := drawn_below W0
    replace h := h.below hD
    replace h' := h'.below hD
    replace k1 := k1.below hD
    replace k1' := k1'.below hD
    replace j := j.below hD
    replace j' := j'.below hD
    replace b0 := b0.below hD
    replace b1 := b1.below hD
    replace b2 := b2.below hD
    replace H0 := H0.trans (hD.mono H0.size)
    clear hD
    refine wp_region_noPanic ?_
    refine wp_region_held_drew (S := (fun V => V.cell? ⟨w.heap.size, 0, none⟩ = some (.bool s0) ∧ V.cell? ⟨w.heap.size, 1, none⟩ = some (.slice A0 n0 c0) ∧ V.cell? ⟨w.heap.size, 2, none⟩ = some (.slice D0 m0 e0) ∧ V.cell? ⟨w.heap.size, 3, none⟩ = some (.bool s1) ∧ V.cell? ⟨w.heap.size, 4, none⟩ = some (.slice A1 n1 c1) ∧ V.cell? ⟨w.heap.size, 5, none⟩ = some (.slice D1 m1 e1) ∧ V.cell? ⟨w.heap.size + 1, 0, none⟩ = some (.bool s2) ∧ V.cell? ⟨w.heap.size + 1, 1, none⟩ = some (.slice A2 n2 c2) ∧ V.cell? ⟨w.heap.size + 1, 2, none⟩ = some (.slice D2 m2 e2) ∧ V.cell? ⟨w.heap.size + 1, 3, none⟩ = some (.bool s3) ∧ V.cell? ⟨w.heap.size + 1, 4, none⟩ = some (.slice A3 n3 c3) ∧ V.cell? ⟨w.heap.size + 1, 5, none⟩ = some (.slice D3 m3 e3) ∧ V.cell? ⟨w.heap.size + 1 + 1, 0, none⟩ = some (.bool s4) ∧ V.cell? ⟨w.heap.size + 1 + 1, 1, none⟩ = some (.slice A4 n4 c4) ∧ V.cell? ⟨w.heap.size + 1 + 1, 2, none⟩ = some (.slice D4 m4 e4) ∧ V.cell? ⟨w.heap.size + 1 + 1, 3, none⟩ = some (.bool s5) ∧ V.cell? ⟨w.heap.size + 1 + 1, 4, none⟩ = some (.slice A5 n5 c5) ∧ V.cell? ⟨w.heap.size + 1 + 1, 5, none⟩ = some (.slice D5 m5 e5))) (by kernel_rfl) ⟨b0.cell 0 _ rfl, b0.cell 1 _ rfl, b0.cell 2 _ rfl, b0.cell 3 _ rfl, b0.cell 4 _ rfl, b0.cell 5 _ rfl, b1.cell 0 _ rfl, b1.cell 1 _ rfl, b1.cell 2 _ rfl, b1.cell 3 _ rfl, b1.cell 4 _ rfl, b1.cell 5 _ rfl, b2.cell 0 _ rfl, b2.cell 1 _ rfl, b2.cell 2 _ rfl, b2.cell 3 _ rfl, b2.cell 4 _ rfl, b2.cell 5 _ rfl⟩ (fun hHeld => ?_)
    generalize W0.drew = v1 at H0 hHeld h h' k1 k1' j j' b0 b1 b2 ⊢
    refine wpAnyH_take (i := 0) (v := ?_) rfl (by kernel_rfl) (by kernel_rfl) (by kernel_rfl) (fun _ _ _ h => h) (Or.inl ⟨by rfl, ?_⟩) (by assumption) ?_
    rotate_left
    · (intro w hSw; (try dsimp only at hSw); go_simp; (try with_reducible rfl))
    (try simp only [List.getElem_toArray, List.getElem_cons_zero, Act.put, List.setIfInBounds_toArray, List.set_cons_zero, List.set_cons_succ])
    refine wpAnyH_take (i := 1) (v := ?_) rfl (by kernel_rfl) (by kernel_rfl) (by kernel_rfl) (fun _ _ _ h => h) (Or.inl ⟨by rfl, ?_⟩) (by assumption) ?_
    rotate_left
    · (intro w hSw; (try dsimp only at hSw); go_simp; (try with_reducible rfl))
    (try simp only [List.getElem_toArray, List.getElem_cons_succ, List.getElem_cons_zero, Act.put, List.setIfInBounds_toArray, List.set_cons_zero, List.set_cons_succ])
    refine wpAnyH_take (i := 3) (v := ?_) rfl (by kernel_rfl) (by kernel_rfl) (by kernel_rfl) (fun _ _ _ h => h) (Or.inl ⟨by rfl, ?_⟩) (by assumption) ?_
    rotate_left
    · (intro w hSw; (try dsimp only at hSw); go_simp; (try with_reducible rfl))
    (try simp only [List.getElem_toArray, List.getElem_cons_succ, List.getElem_cons_zero, Act.put, List.setIfInBounds_toArray, List.set_cons_zero, List.set_cons_succ])
    refine wpAnyH_take (i := 4) (v := ?_) rfl (by kernel_rfl) (by kernel_rfl) (by kernel_rfl) (fun _ _ _ h => h) (Or.inl ⟨by rfl, ?_⟩) (by assumption) ?_
    rotate_left
    · (intro w hSw; (try dsimp only at hSw); go_simp; (try with_reducible rfl))
    (try simp only [List.getElem_toArray, List.getElem_cons_succ, List.getElem_cons_zero, Act.put, List.setIfInBounds_toArray, List.set_cons_zero, List.set_cons_succ])
    refine wpAnyH_ready (rs := [2]) (by kernel_rfl) (by simp) (AllReadyH.cons (o := _) rfl (fun K hK => ?_) AllReadyH.nil)
    go_simp
    go_at_call 39
    refine (pcompare_v h h' j j' (by omega) (by omega) E1.out).mono ?_
    rintro e w2 ⟨rfl, hb⟩
    replace h := h.below hb
    replace h' := h'.below hb
    replace k1 := k1.below hb
    replace k1' := k1'.below hb
    replace j := j.below hb
    replace j' := j'.below hb
    replace b0 := b0.below hb
    replace b1 := b1.below hb
    replace b2 := b2.below hb
    replace H0 := H0.trans (hb.mono H0.size)
    clear hb
    go_wp2_with fail
    refine hK.out _ _ ⟨b0.cell 0 _ rfl, b0.cell 1 _ rfl, b0.cell 2 _ rfl, b0.cell 3 _ rfl, b0.cell 4 _ rfl, b0.cell 5 _ rfl, b1.cell 0 _ rfl, b1.cell 1 _ rfl, b1.cell 2 _ rfl, b1.cell 3 _ rfl, b1.cell 4 _ rfl, b1.cell 5 _ rfl, b2.cell 0 _ rfl, b2.cell 1 _ rfl, b2.cell 2 _ rfl, b2.cell 3 _ rfl, b2.cell 4 _ rfl, b2.cell 5 _ rfl⟩ (fun hHeld => ?_)
    clear hK K
    (try simp only [List.getElem_toArray, List.getElem_cons_succ, List.getElem_cons_zero, Act.put, List.setIfInBounds_toArray, List.set_cons_zero, List.set_cons_succ])
    refine wpAnyH_ready (rs := [5]) (by kernel_rfl) (by simp) (AllReadyH.cons (o := _) rfl (fun K hK => ?_) AllReadyH.nil)
    go_simp
    go_at_call 39
    refine (pcompare_v j j' k1 k1' (by omega) (by omega) E2.out).mono ?_
    rintro e w3 ⟨rfl, hb⟩
    replace h := h.below hb
    replace h' := h'.below hb
    replace k1 := k1.below hb
    replace k1' := k1'.below hb
    replace j := j.below hb
    replace j' := j'.below hb
    replace b0 := b0.below hb
    replace b1 := b1.below hb
    replace b2 := b2.below hb
    replace H0 := H0.trans (hb.mono H0.size)
    clear hb
    go_wp2_with fail
    refine hK.out _ _ ⟨b0.cell 0 _ rfl, b0.cell 1 _ rfl, b0.cell 2 _ rfl, b0.cell 3 _ rfl, b0.cell 4 _ rfl, b0.cell 5 _ rfl, b1.cell 0 _ rfl, b1.cell 1 _ rfl, b1.cell 2 _ rfl, b1.cell 3 _ rfl, b1.cell 4 _ rfl, b1.cell 5 _ rfl, b2.cell 0 _ rfl, b2.cell 1 _ rfl, b2.cell 2 _ rfl, b2.cell 3 _ rfl, b2.cell 4 _ rfl, b2.cell 5 _ rfl⟩ (fun hHeld => ?_)
    clear hK K
    (try simp only [List.getElem_toArray, List.getElem_cons_succ, List.getElem_cons_zero, Act.put, List.setIfInBounds_toArray, List.set_cons_zero, List.set_cons_succ])
    refine wpAnyH_take (i := 6) (v := ?_) rfl (by kernel_rfl) (by kernel_rfl) (by kernel_rfl) (fun _ _ _ h => h) (Or.inl ⟨by rfl, ?_⟩) (by assumption) ?_
    rotate_left
    · (intro w hSw; (try dsimp only at hSw); go_simp; (try with_reducible rfl))
    (try simp only [List.getElem_toArray, List.getElem_cons_succ, List.getElem_cons_zero, Act.put, List.setIfInBounds_toArray, List.set_cons_zero, List.set_cons_succ])
    refine wpAnyH_take (i := 7) (v := ?_) rfl (by kernel_rfl) (by kernel_rfl) (by kernel_rfl) (fun _ _ _ h => h) (Or.inl ⟨by rfl, ?_⟩) (by assumption) ?_
    rotate_left
    · (intro w hSw; (try dsimp only at hSw); go_simp; (try with_reducible rfl))
    (try simp only [List.getElem_toArray, List.getElem_cons_succ, List.getElem_cons_zero, Act.put, List.setIfInBounds_toArray, List.set_cons_zero, List.set_cons_succ])
    refine wpAnyH_take (i := 8) (v := ?_) rfl (by kernel_rfl) (by kernel_rfl) (by kernel_rfl) (fun _ _ _ h => h) (Or.inl ⟨by rfl, ?_⟩) (by assumption) ?_
    rotate_left
    · (intro w hSw; (try dsimp only at hSw); go_simp; (try with_reducible rfl))
    (try simp only [List.getElem_toArray, List.getElem_cons_succ, List.getElem_cons_zero, Act.put, List.setIfInBounds_toArray, List.set_cons_zero, List.set_cons_succ])
    refine wpAnyH_take (i := 9) (v := ?_) rfl (by kernel_rfl) (by kernel_rfl) (by kernel_rfl) (fun _ _ _ h => h) (Or.inl ⟨by rfl, ?_⟩) (by assumption) ?_
    rotate_left
    · (intro w hSw; (try dsimp only at hSw); go_simp; (try with_reducible rfl))
    (try simp only [List.getElem_toArray, List.getElem_cons_succ, List.getElem_cons_zero, Act.put, List.setIfInBounds_toArray, List.set_cons_zero, List.set_cons_succ])
    refine wpAnyH_take (i := 10) (v := ?_) rfl (by kernel_rfl) (by kernel_rfl) (by kernel_rfl) (fun _ _ _ h => h) (Or.inl ⟨by rfl, ?_⟩) (by assumption) ?_
    rotate_left
    · (intro w hSw; (try dsimp only at hSw); go_simp; (try with_reducible rfl))
    (try simp only [List.getElem_toArray, List.getElem_cons_succ, List.getElem_cons_zero, Act.put, List.setIfInBounds_toArray, List.set_cons_zero, List.set_cons_succ])
    refine wpAnyH_take (i := 11) (v := ?_) rfl (by kernel_rfl) (by kernel_rfl) (by kernel_rfl) (fun _ _ _ h => h) (Or.inl ⟨by rfl, ?_⟩) (by assumption) ?_
    rotate_left
    · (intro w hSw; (try dsimp only at hSw); go_simp; (try with_reducible rfl))
    (try simp only [List.getElem_toArray, List.getElem_cons_succ, List.getElem_cons_zero, Act.put, List.setIfInBounds_toArray, List.set_cons_zero, List.set_cons_succ])
    refine wpAnyH_ready (rs := [12]) (by kernel_rfl) (by simp) (AllReadyH.cons (o := _) rfl (fun K hK => ?_) AllReadyH.nil)
    go_simp
    rw [if_pos (by decide)]
    go_at_call 34
    refine (porient_v h h' k1 k1' j j' (by omega) (by omega) (by omega) HO.out).mono ?_
    rintro e w4 ⟨rfl, hb⟩
    replace h := h.below hb
    replace h' := h'.below hb
    replace k1 := k1.below hb
    replace k1' := k1'.below hb
    replace j := j.below hb
    replace j' := j'.below hb
    replace b0 := b0.below hb
    replace b1 := b1.below hb
    replace b2 := b2.below hb
    replace H0 := H0.trans (hb.mono H0.size)
    clear hb
    go_wp2_with fail
    refine hK.out _ _ ⟨b0.cell 0 _ rfl, b0.cell 1 _ rfl, b0.cell 2 _ rfl, b0.cell 3 _ rfl, b0.cell 4 _ rfl, b0.cell 5 _ rfl, b1.cell 0 _ rfl, b1.cell 1 _ rfl, b1.cell 2 _ rfl, b1.cell 3 _ rfl, b1.cell 4 _ rfl, b1.cell 5 _ rfl, b2.cell 0 _ rfl, b2.cell 1 _ rfl, b2.cell 2 _ rfl, b2.cell 3 _ rfl, b2.cell 4 _ rfl, b2.cell 5 _ rfl⟩ (fun hHeld => ?_)
    clear hK K
    (try simp only [List.getElem_toArray, List.getElem_cons_succ, List.getElem_cons_zero, Act.put, List.setIfInBounds_toArray, List.set_cons_zero, List.set_cons_succ])
    refine wpAnyH_take (i := 13) (v := ?_) rfl (by kernel_rfl) (by kernel_rfl) (by kernel_rfl) (fun _ _ _ h => h) (Or.inl ⟨by rfl, ?_⟩) (by assumption) ?_
    rotate_left
    · (intro w hSw; (try dsimp only at hSw); go_simp; (try with_reducible rfl))
    (try simp only [List.getElem_toArray, List.getElem_cons_succ, List.getElem_cons_zero, Act.put, List.setIfInBounds_toArray, List.set_cons_zero, List.set_cons_succ])
    refine wpAnyH_take (i := 14) (v := ?_) rfl (by kernel_rfl) (by kernel_rfl) (by kernel_rfl) (fun _ _ _ h => h) (Or.inl ⟨by rfl, ?_⟩) (by assumption) ?_
    rotate_left
    · (intro w hSw; (try dsimp only at hSw); go_simp; (try with_reducible rfl))
    (try simp only [List.getElem_toArray, List.getElem_cons_succ, List.getElem_cons_zero, Act.put, List.setIfInBounds_toArray, List.set_cons_zero, List.set_cons_succ])
    refine wpAnyH_take (i := 15) (v := ?_) rfl (by kernel_rfl) (by kernel_rfl) (by kernel_rfl) (fun _ _ _ h => h) (Or.inl ⟨by rfl, ?_⟩) (by assumption) ?_
    rotate_left
    · (intro w hSw; (try dsimp only at hSw); go_simp; (try with_reducible rfl))
    (try simp only [List.getElem_toArray, List.getElem_cons_succ, List.getElem_cons_zero, Act.put, List.setIfInBounds_toArray, List.set_cons_zero, List.set_cons_succ])
    refine wpAnyH_done (by kernel_rfl) ?_ _
    refine NoPanic.normal ?_
    go_wp2_with fail
    go_returns
    exact ⟨rfl, H0⟩
  · have hb2 : b = false := by rw [← hb]; rfl
    subst hb2
    clear hb
    go_enter Tryz.func43, Tryz.ntmps43
    go_wp2_with fail
    obtain ⟨W0, hW, b0, b1, b2, hbW, hszW0⟩ := boxes3 w #[.bool s0, .slice A0 n0 c0, .slice D0 m0 e0, .bool s1, .slice A1 n1 c1, .slice D1 m1 e1] #[.bool s2, .slice A2 n2 c2, .slice D2 m2 e2, .bool s3, .slice A3 n3 c3, .slice D3 m3 e3] #[.bool s4, .slice A4 n4 c4, .slice D4 m4 e4, .bool s5, .slice A5 n5 c5, .slice D5 m5 e5] 29 29 29
    rw [hW]
    clear hW
    replace h := h.below hbW
    replace h' := h'.below hbW
    replace k1 := k1.below hbW
    replace k1' := k1'.below hbW
    replace j := j.below hbW
    replace j' := j'.below hbW
    have H0 := hbW
    clear hbW
    have hD := drawn_below W0
    replace h := h.below hD
    replace h' := h'.below hD
    replace k1 := k1.below hD
    replace k1' := k1'.below hD
    replace j := j.below hD
    replace j' := j'.below hD
    replace b0 := b0.below hD
    replace b1 := b1.below hD
    replace b2 := b2.below hD
    replace H0 := H0.trans (hD.mono H0.size)
    clear hD
    refine wp_region_noPanic ?_
    refine wp_region_held_drew (S := (fun V => V.cell? ⟨w.heap.size, 0, none⟩ = some (.bool s0) ∧ V.cell? ⟨w.heap.size, 1, none⟩ = some (.slice A0 n0 c0) ∧ V.cell? ⟨w.heap.size, 2, none⟩ = some (.slice D0 m0 e0) ∧ V.cell? ⟨w.heap.size, 3, none⟩ = some (.bool s1) ∧ V.cell? ⟨w.heap.size, 4, none⟩ = some (.slice A1 n1 c1) ∧ V.cell? ⟨w.heap.size, 5, none⟩ = some (.slice D1 m1 e1) ∧ V.cell? ⟨w.heap.size + 1, 0, none⟩ = some (.bool s2) ∧ V.cell? ⟨w.heap.size + 1, 1, none⟩ = some (.slice A2 n2 c2) ∧ V.cell? ⟨w.heap.size + 1, 2, none⟩ = some (.slice D2 m2 e2) ∧ V.cell? ⟨w.heap.size + 1, 3, none⟩ = some (.bool s3) ∧ V.cell? ⟨w.heap.size + 1, 4, none⟩ = some (.slice A3 n3 c3) ∧ V.cell? ⟨w.heap.size + 1, 5, none⟩ = some (.slice D3 m3 e3) ∧ V.cell? ⟨w.heap.size + 1 + 1, 0, none⟩ = some (.bool s4) ∧ V.cell? ⟨w.heap.size + 1 + 1, 1, none⟩ = some (.slice A4 n4 c4) ∧ V.cell? ⟨w.heap.size + 1 + 1, 2, none⟩ = some (.slice D4 m4 e4) ∧ V.cell? ⟨w.heap.size + 1 + 1, 3, none⟩ = some (.bool s5) ∧ V.cell? ⟨w.heap.size + 1 + 1, 4, none⟩ = some (.slice A5 n5 c5) ∧ V.cell? ⟨w.heap.size + 1 + 1, 5, none⟩ = some (.slice D5 m5 e5))) (by kernel_rfl) ⟨b0.cell 0 _ rfl, b0.cell 1 _ rfl, b0.cell 2 _ rfl, b0.cell 3 _ rfl, b0.cell 4 _ rfl, b0.cell 5 _ rfl, b1.cell 0 _ rfl, b1.cell 1 _ rfl, b1.cell 2 _ rfl, b1.cell 3 _ rfl, b1.cell 4 _ rfl, b1.cell 5 _ rfl, b2.cell 0 _ rfl, b2.cell 1 _ rfl, b2.cell 2 _ rfl, b2.cell 3 _ rfl, b2.cell 4 _ rfl, b2.cell 5 _ rfl⟩ (fun hHeld => ?_)
    generalize W0.drew = v1 at H0 hHeld h h' k1 k1' j j' b0 b1 b2 ⊢
    refine wpAnyH_take (i := 0) (v := ?_) rfl (by kernel_rfl) (by kernel_rfl) (by kernel_rfl) (fun _ _ _ h => h) (Or.inl ⟨by rfl, ?_⟩) (by assumption) ?_
    rotate_left
    · (intro w hSw; (try dsimp only at hSw); go_simp; (try with_reducible rfl))
    (try simp only [List.getElem_toArray, List.getElem_cons_zero, Act.put, List.setIfInBounds_toArray, List.set_cons_zero, List.set_cons_succ])
    refine wpAnyH_take (i := 1) (v := ?_) rfl (by kernel_rfl) (by kernel_rfl) (by kernel_rfl) (fun _ _ _ h => h) (Or.inl ⟨by rfl, ?_⟩) (by assumption) ?_
    rotate_left
    · (intro w hSw; (try dsimp only at hSw); go_simp; (try with_reducible rfl))
    (try simp only [List.getElem_toArray, List.getElem_cons_succ, List.getElem_cons_zero, Act.put, List.setIfInBounds_toArray, List.set_cons_zero, List.set_cons_succ])
    refine wpAnyH_take (i := 3) (v := ?_) rfl (by kernel_rfl) (by kernel_rfl) (by kernel_rfl) (fun _ _ _ h => h) (Or.inl ⟨by rfl, ?_⟩) (by assumption) ?_
    rotate_left
    · (intro w hSw; (try dsimp only at hSw); go_simp; (try with_reducible rfl))
    (try simp only [List.getElem_toArray, List.getElem_cons_succ, List.getElem_cons_zero, Act.put, List.setIfInBounds_toArray, List.set_cons_zero, List.set_cons_succ])
    refine wpAnyH_take (i := 4) (v := ?_) rfl (by kernel_rfl) (by kernel_rfl) (by kernel_rfl) (fun _ _ _ h => h) (Or.inl ⟨by rfl, ?_⟩) (by assumption) ?_
    rotate_left
    · (intro w hSw; (try dsimp only at hSw); go_simp; (try with_reducible rfl))
    (try simp only [List.getElem_toArray, List.getElem_cons_succ, List.getElem_cons_zero, Act.put, List.setIfInBounds_toArray, List.set_cons_zero, List.set_cons_succ])
    refine wpAnyH_ready (rs := [2]) (by kernel_rfl) (by simp) (AllReadyH.cons (o := _) rfl (fun K hK => ?_) AllReadyH.nil)
    go_simp
    go_at_call 39
    refine (pcompare_v h h' j j' (by omega) (by omega) E1.out).mono ?_
    rintro e w2 ⟨rfl, hb⟩
    replace h := h.below hb
    replace h' := h'.below hb
    replace k1 := k1.below hb
    replace k1' := k1'.below hb
    replace j := j.below hb
    replace j' := j'.below hb
    replace b0 := b0.below hb
    replace b1 := b1.below hb
    replace b2 := b2.below hb
    replace H0 := H0.trans (hb.mono H0.size)
    clear hb
    go_wp2_with fail
    refine hK.out _ _ ⟨b0.cell 0 _ rfl, b0.cell 1 _ rfl, b0.cell 2 _ rfl, b0.cell 3 _ rfl, b0.cell 4 _ rfl, b0.cell 5 _ rfl, b1.cell 0 _ rfl, b1.cell 1 _ rfl, b1.cell 2 _ rfl, b1.cell 3 _ rfl, b1.cell 4 _ rfl, b1.cell 5 _ rfl, b2.cell 0 _ rfl, b2.cell 1 _ rfl, b2.cell 2 _ rfl, b2.cell 3 _ rfl, b2.cell 4 _ rfl, b2.cell 5 _ rfl⟩ (fun hHeld => ?_)
    clear hK K
    (try simp only [List.getElem_toArray, List.getElem_cons_succ, List.getElem_cons_zero, Act.put, List.setIfInBounds_toArray, List.set_cons_zero, List.set_cons_succ])
    refine wpAnyH_ready (rs := [5]) (by kernel_rfl) (by simp) (AllReadyH.cons (o := _) rfl (fun K hK => ?_) AllReadyH.nil)
    go_simp
    go_at_call 39
    refine (pcompare_v j j' k1 k1' (by omega) (by omega) E2.out).mono ?_
    rintro e w3 ⟨rfl, hb⟩
    replace h := h.below hb
    replace h' := h'.below hb
    replace k1 := k1.below hb
    replace k1' := k1'.below hb
    replace j := j.below hb
    replace j' := j'.below hb
    replace b0 := b0.below hb
    replace b1 := b1.below hb
    replace b2 := b2.below hb
    replace H0 := H0.trans (hb.mono H0.size)
    clear hb
    go_wp2_with fail
    refine hK.out _ _ ⟨b0.cell 0 _ rfl, b0.cell 1 _ rfl, b0.cell 2 _ rfl, b0.cell 3 _ rfl, b0.cell 4 _ rfl, b0.cell 5 _ rfl, b1.cell 0 _ rfl, b1.cell 1 _ rfl, b1.cell 2 _ rfl, b1.cell 3 _ rfl, b1.cell 4 _ rfl, b1.cell 5 _ rfl, b2.cell 0 _ rfl, b2.cell 1 _ rfl, b2.cell 2 _ rfl, b2.cell 3 _ rfl, b2.cell 4 _ rfl, b2.cell 5 _ rfl⟩ (fun hHeld => ?_)
    clear hK K
    (try simp only [List.getElem_toArray, List.getElem_cons_succ, List.getElem_cons_zero, Act.put, List.setIfInBounds_toArray, List.set_cons_zero, List.set_cons_succ])
    refine wpAnyH_take (i := 6) (v := ?_) rfl (by kernel_rfl) (by kernel_rfl) (by kernel_rfl) (fun _ _ _ h => h) (Or.inl ⟨by rfl, ?_⟩) (by assumption) ?_
    rotate_left
    · (intro w hSw; (try dsimp only at hSw); go_simp; (try with_reducible rfl))
    (try simp only [List.getElem_toArray, List.getElem_cons_succ, List.getElem_cons_zero, Act.put, List.setIfInBounds_toArray, List.set_cons_zero, List.set_cons_succ])
    refine wpAnyH_take (i := 7) (v := ?_) rfl (by kernel_rfl) (by kernel_rfl) (by kernel_rfl) (fun _ _ _ h => h) (Or.inl ⟨by rfl, ?_⟩) (by assumption) ?_
    rotate_left
    · (intro w hSw; (try dsimp only at hSw); go_simp; (try with_reducible rfl))
    (try simp only [List.getElem_toArray, List.getElem_cons_succ, List.getElem_cons_zero, Act.put, List.setIfInBounds_toArray, List.set_cons_zero, List.set_cons_succ])
    refine wpAnyH_take (i := 8) (v := ?_) rfl (by kernel_rfl) (by kernel_rfl) (by kernel_rfl) (fun _ _ _ h => h) (Or.inl ⟨by rfl, ?_⟩) (by assumption) ?_
    rotate_left
    · (intro w hSw; (try dsimp only at hSw); go_simp; (try with_reducible rfl))
    (try simp only [List.getElem_toArray, List.getElem_cons_succ, List.getElem_cons_zero, Act.put, List.setIfInBounds_toArray, List.set_cons_zero, List.set_cons_succ])
    refine wpAnyH_take (i := 9) (v := undef) rfl (by kernel_rfl) (by kernel_rfl) (by kernel_rfl) (fun _ _ _ h => h) (Or.inr ⟨by rfl, rfl⟩) (by assumption) ?_
    (try simp only [List.getElem_toArray, List.getElem_cons_succ, List.getElem_cons_zero, Act.put, List.setIfInBounds_toArray, List.set_cons_zero, List.set_cons_succ])
    refine wpAnyH_take (i := 10) (v := undef) rfl (by kernel_rfl) (by kernel_rfl) (by kernel_rfl) (fun _ _ _ h => h) (Or.inr ⟨by rfl, rfl⟩) (by assumption) ?_
    (try simp only [List.getElem_toArray, List.getElem_cons_succ, List.getElem_cons_zero, Act.put, List.setIfInBounds_toArray, List.set_cons_zero, List.set_cons_succ])
    refine wpAnyH_take (i := 11) (v := undef) rfl (by kernel_rfl) (by kernel_rfl) (by kernel_rfl) (fun _ _ _ h => h) (Or.inr ⟨by rfl, rfl⟩) (by assumption) ?_
    (try simp only [List.getElem_toArray, List.getElem_cons_succ, List.getElem_cons_zero, Act.put, List.setIfInBounds_toArray, List.set_cons_zero, List.set_cons_succ])
    refine wpAnyH_take (i := 12) (v := undef) rfl (by kernel_rfl) (by kernel_rfl) (by kernel_rfl) (fun _ _ _ h => h) (Or.inr ⟨by rfl, rfl⟩) (by assumption) ?_
    (try simp only [List.getElem_toArray, List.getElem_cons_succ, List.getElem_cons_zero, Act.put, List.setIfInBounds_toArray, List.set_cons_zero, List.set_cons_succ])
    refine wpAnyH_take (i := 13) (v := undef) rfl (by kernel_rfl) (by kernel_rfl) (by kernel_rfl) (fun _ _ _ h => h) (Or.inr ⟨by rfl, rfl⟩) (by assumption) ?_
    (try simp only [List.getElem_toArray, List.getElem_cons_succ, List.getElem_cons_zero, Act.put, List.setIfInBounds_toArray, List.set_cons_zero, List.set_cons_succ])
    refine wpAnyH_take (i := 14) (v := ?_) rfl (by kernel_rfl) (by kernel_rfl) (by kernel_rfl) (fun _ _ _ h => h) (Or.inl ⟨by rfl, ?_⟩) (by assumption) ?_
    rotate_left
    · (intro w hSw; (try dsimp only at hSw); go_simp; (try with_reducible rfl))
    (try simp only [List.getElem_toArray, List.getElem_cons_succ, List.getElem_cons_zero, Act.put, List.setIfInBounds_toArray, List.set_cons_zero, List.set_cons_succ])
    refine wpAnyH_take (i := 15) (v := ?_) rfl (by kernel_rfl) (by kernel_rfl) (by kernel_rfl) (fun _ _ _ h => h) (Or.inl ⟨by rfl, ?_⟩) (by assumption) ?_
    rotate_left
    · (intro w hSw; (try dsimp only at hSw); go_simp; (try with_reducible rfl))
    (try simp only [List.getElem_toArray, List.getElem_cons_succ, List.getElem_cons_zero, Act.put, List.setIfInBounds_toArray, List.set_cons_zero, List.set_cons_succ])
    refine wpAnyH_done (by kernel_rfl) ?_ _
    refine NoPanic.normal ?_
    go_wp2_with fail
    go_returns
    exact ⟨rfl, H0⟩
  · have hb2 : b = ((ko : Int) == 0) := by rw [← hb]; rfl
    subst hb2
    clear hb
    go_enter Tryz.func43, Tryz.ntmps43
    go_wp2_with fail
    obtain ⟨W0, hW, b0, b1, b2, hbW, hszW0⟩ := boxes3 w #[.bool s0, .slice A0 n0 c0, .slice D0 m0 e0, .bool s1, .slice A1 n1 c1, .slice D1 m1 e1] #[.bool s2, .slice A2 n2 c2, .slice D2 m2 e2, .bool s3, .slice A3 n3 c3, .slice D3 m3 e3] #[.bool s4, .slice A4 n4 c4, .slice D4 m4 e4, .bool s5, .slice A5 n5 c5, .slice D5 m5 e5] 29 29 29
    rw [hW]
    clear hW
    replace h := h.below hbW
    replace h' := h'.below hbW
    replace k1 := k1.below hbW
    replace k1' := k1'.below hbW
    replace j := j.below hbW
    replace j' := j'.below hbW
    have H0 := hbW
    clear hbW
    have hD := drawn_below W0
    replace h := h.below hD
    replace h' := h'.below hD
    replace k1 := k1.below hD
    replace k1' := k1'.below hD
    replace j := j.below hD
    replace j' := j'.below hD
    replace b0 := b0.below hD
    replace b1 := b1.below hD
    replace b2 := b2.below hD
    replace H0 := H0.trans (hD.mono H0.size)
    clear hD
    refine wp_region_noPanic ?_
    refine wp_region_held_drew (S := (fun V => V.cell? ⟨w.heap.size, 0, none⟩ = some (.bool s0) ∧ V.cell? ⟨w.heap.size, 1, none⟩ = some (.slice A0 n0 c0) ∧ V.cell? ⟨w.heap.size, 2, none⟩ = some (.slice D0 m0 e0) ∧ V.cell? ⟨w.heap.size, 3, none⟩ = some (.bool s1) ∧ V.cell? ⟨w.heap.size, 4, none⟩ = some (.slice A1 n1 c1) ∧ V.cell? ⟨w.heap.size, 5, none⟩ = some (.slice D1 m1 e1) ∧ V.cell? ⟨w.heap.size + 1, 0, none⟩ = some (.bool s2) ∧ V.cell? ⟨w.heap.size + 1, 1, none⟩ = some (.slice A2 n2 c2) ∧ V.cell? ⟨w.heap.size + 1, 2, none⟩ = some (.slice D2 m2 e2) ∧ V.cell? ⟨w.heap.size + 1, 3, none⟩ = some (.bool s3) ∧ V.cell? ⟨w.heap.size + 1, 4, none⟩ = some (.slice A3 n3 c3) ∧ V.cell? ⟨w.heap.size + 1, 5, none⟩ = some (.slice D3 m3 e3) ∧ V.cell? ⟨w.heap.size + 1 + 1, 0, none⟩ = some (.bool s4) ∧ V.cell? ⟨w.heap.size + 1 + 1, 1, none⟩ = some (.slice A4 n4 c4) ∧ V.cell? ⟨w.heap.size + 1 + 1, 2, none⟩ = some (.slice D4 m4 e4) ∧ V.cell? ⟨w.heap.size + 1 + 1, 3, none⟩ = some (.bool s5) ∧ V.cell? ⟨w.heap.size + 1 + 1, 4, none⟩ = some (.slice A5 n5 c5) ∧ V.cell? ⟨w.heap.size + 1 + 1, 5, none⟩ = some (.slice D5 m5 e5))) (by kernel_rfl) ⟨b0.cell 0 _ rfl, b0.cell 1 _ rfl, b0.cell 2 _ rfl, b0.cell 3 _ rfl, b0.cell 4 _ rfl, b0.cell 5 _ rfl, b1.cell 0 _ rfl, b1.cell 1 _ rfl, b1.cell 2 _ rfl, b1.cell 3 _ rfl, b1.cell 4 _ rfl, b1.cell 5 _ rfl, b2.cell 0 _ rfl, b2.cell 1 _ rfl, b2.cell 2 _ rfl, b2.cell 3 _ rfl, b2.cell 4 _ rfl, b2.cell 5 _ rfl⟩ (fun hHeld => ?_)
    generalize W0.drew = v1 at H0 hHeld h h' k1 k1' j j' b0 b1 b2 ⊢
    refine wpAnyH_take (i := 0) (v := ?_) rfl (by kernel_rfl) (by kernel_rfl) (by kernel_rfl) (fun _ _ _ h => h) (Or.inl ⟨by rfl, ?_⟩) (by assumption) ?_
    rotate_left
    · (intro w hSw; (try dsimp only at hSw); go_simp; (try with_reducible rfl))
    (try simp only [List.getElem_toArray, List.getElem_cons_zero, Act.put, List.setIfInBounds_toArray, List.set_cons_zero, List.set_cons_succ])
    refine wpAnyH_take (i := 1) (v := ?_) rfl (by kernel_rfl) (by kernel_rfl) (by kernel_rfl) (fun _ _ _ h => h) (Or.inl ⟨by rfl, ?_⟩) (by assumption) ?_
    rotate_left
    · (intro w hSw; (try dsimp only at hSw); go_simp; (try with_reducible rfl))
    (try simp only [List.getElem_toArray, List.getElem_cons_succ, List.getElem_cons_zero, Act.put, List.setIfInBounds_toArray, List.set_cons_zero, List.set_cons_succ])
    refine wpAnyH_take (i := 3) (v := ?_) rfl (by kernel_rfl) (by kernel_rfl) (by kernel_rfl) (fun _ _ _ h => h) (Or.inl ⟨by rfl, ?_⟩) (by assumption) ?_
    rotate_left
    · (intro w hSw; (try dsimp only at hSw); go_simp; (try with_reducible rfl))
    (try simp only [List.getElem_toArray, List.getElem_cons_succ, List.getElem_cons_zero, Act.put, List.setIfInBounds_toArray, List.set_cons_zero, List.set_cons_succ])
    refine wpAnyH_take (i := 4) (v := ?_) rfl (by kernel_rfl) (by kernel_rfl) (by kernel_rfl) (fun _ _ _ h => h) (Or.inl ⟨by rfl, ?_⟩) (by assumption) ?_
    rotate_left
    · (intro w hSw; (try dsimp only at hSw); go_simp; (try with_reducible rfl))
    (try simp only [List.getElem_toArray, List.getElem_cons_succ, List.getElem_cons_zero, Act.put, List.setIfInBounds_toArray, List.set_cons_zero, List.set_cons_succ])
    refine wpAnyH_ready (rs := [2]) (by kernel_rfl) (by simp) (AllReadyH.cons (o := _) rfl (fun K hK => ?_) AllReadyH.nil)
    go_simp
    go_at_call 39
    refine (pcompare_v h h' j j' (by omega) (by omega) E1.out).mono ?_
    rintro e w2 ⟨rfl, hb⟩
    replace h := h.below hb
    replace h' := h'.below hb
    replace k1 := k1.below hb
    replace k1' := k1'.below hb
    replace j := j.below hb
    replace j' := j'.below hb
    replace b0 := b0.below hb
    replace b1 := b1.below hb
    replace b2 := b2.below hb
    replace H0 := H0.trans (hb.mono H0.size)
    clear hb
    go_wp2_with fail
    refine hK.out _ _ ⟨b0.cell 0 _ rfl, b0.cell 1 _ rfl, b0.cell 2 _ rfl, b0.cell 3 _ rfl, b0.cell 4 _ rfl, b0.cell 5 _ rfl, b1.cell 0 _ rfl, b1.cell 1 _ rfl, b1.cell 2 _ rfl, b1.cell 3 _ rfl, b1.cell 4 _ rfl, b1.cell 5 _ rfl, b2.cell 0 _ rfl, b2.cell 1 _ rfl, b2.cell 2 _ rfl, b2.cell 3 _ rfl, b2.cell 4 _ rfl, b2.cell 5 _ rfl⟩ (fun hHeld => ?_)
    clear hK K
    (try simp only [List.getElem_toArray, List.getElem_cons_succ, List.getElem_cons_zero, Act.put, List.setIfInBounds_toArray, List.set_cons_zero, List.set_cons_succ])
    refine wpAnyH_ready (rs := [5]) (by kernel_rfl) (by simp) (AllReadyH.cons (o := _) rfl (fun K hK => ?_) AllReadyH.nil)
    go_simp
    go_at_call 39
    refine (pcompare_v j j' k1 k1' (by omega) (by omega) E2.out).mono ?_
    rintro e w3 ⟨rfl, hb⟩
    replace h := h.below hb
    replace h' := h'.below hb
    replace k1 := k1.below hb
    replace k1' := k1'.below hb
    replace j := j.below hb
    replace j' := j'.below hb
    replace b0 := b0.below hb
    replace b1 := b1.below hb
    replace b2 := b2.below hb
    replace H0 := H0.trans (hb.mono H0.size)
    clear hb
    go_wp2_with fail
    refine hK.out _ _ ⟨b0.cell 0 _ rfl, b0.cell 1 _ rfl, b0.cell 2 _ rfl, b0.cell 3 _ rfl, b0.cell 4 _ rfl, b0.cell 5 _ rfl, b1.cell 0 _ rfl, b1.cell 1 _ rfl, b1.cell 2 _ rfl, b1.cell 3 _ rfl, b1.cell 4 _ rfl, b1.cell 5 _ rfl, b2.cell 0 _ rfl, b2.cell 1 _ rfl, b2.cell 2 _ rfl, b2.cell 3 _ rfl, b2.cell 4 _ rfl, b2.cell 5 _ rfl⟩ (fun hHeld => ?_)
    clear hK K
    (try simp only [List.getElem_toArray, List.getElem_cons_succ, List.getElem_cons_zero, Act.put, List.setIfInBounds_toArray, List.set_cons_zero, List.set_cons_succ])
    refine wpAnyH_take (i := 6) (v := ?_) rfl (by kernel_rfl) (by kernel_rfl) (by kernel_rfl) (fun _ _ _ h => h) (Or.inl ⟨by rfl, ?_⟩) (by assumption) ?_
    rotate_left
    · (intro w hSw; (try dsimp only at hSw); go_simp; (try with_reducible rfl))
    (try simp only [List.getElem_toArray, List.getElem_cons_succ, List.getElem_cons_zero, Act.put, List.setIfInBounds_toArray, List.set_cons_zero, List.set_cons_succ])
    refine wpAnyH_take (i := 7) (v := ?_) rfl (by kernel_rfl) (by kernel_rfl) (by kernel_rfl) (fun _ _ _ h => h) (Or.inl ⟨by rfl, ?_⟩) (by assumption) ?_
    rotate_left
    · (intro w hSw; (try dsimp only at hSw); go_simp; (try with_reducible rfl))
    (try simp only [List.getElem_toArray, List.getElem_cons_succ, List.getElem_cons_zero, Act.put, List.setIfInBounds_toArray, List.set_cons_zero, List.set_cons_succ])
    refine wpAnyH_take (i := 8) (v := ?_) rfl (by kernel_rfl) (by kernel_rfl) (by kernel_rfl) (fun _ _ _ h => h) (Or.inl ⟨by rfl, ?_⟩) (by assumption) ?_
    rotate_left
    · (intro w hSw; (try dsimp only at hSw); go_simp; (try with_reducible rfl))
    (try simp only [List.getElem_toArray, List.getElem_cons_succ, List.getElem_cons_zero, Act.put, List.setIfInBounds_toArray, List.set_cons_zero, List.set_cons_succ])
    refine wpAnyH_take (i := 9) (v := ?_) rfl (by kernel_rfl) (by kernel_rfl) (by kernel_rfl) (fun _ _ _ h => h) (Or.inl ⟨by rfl, ?_⟩) (by assumption) ?_
    rotate_left
    · (intro w hSw; (try dsimp only at hSw); go_simp; (try with_reducible rfl))
    (try simp only [List.getElem_toArray, List.getElem_cons_succ, List.getElem_cons_zero, Act.put, List.setIfInBounds_toArray, List.set_cons_zero, List.set_cons_succ])
    refine wpAnyH_take (i := 10) (v := ?_) rfl (by kernel_rfl) (by kernel_rfl) (by kernel_rfl) (fun _ _ _ h => h) (Or.inl ⟨by rfl, ?_⟩) (by assumption) ?_
    rotate_left
    · (intro w hSw; (try dsimp only at hSw); go_simp; (try with_reducible rfl))
    (try simp only [List.getElem_toArray, List.getElem_cons_succ, List.getElem_cons_zero, Act.put, List.setIfInBounds_toArray, List.set_cons_zero, List.set_cons_succ])
    refine wpAnyH_take (i := 11) (v := ?_) rfl (by kernel_rfl) (by kernel_rfl) (by kernel_rfl) (fun _ _ _ h => h) (Or.inl ⟨by rfl, ?_⟩) (by assumption) ?_
    rotate_left
    · (intro w hSw; (try dsimp only at hSw); go_simp; (try with_reducible rfl))
    (try simp only [List.getElem_toArray, List.getElem_cons_succ, List.getElem_cons_zero, Act.put, List.setIfInBounds_toArray, List.set_cons_zero, List.set_cons_succ])
    refine wpAnyH_ready (rs := [12]) (by kernel_rfl) (by simp) (AllReadyH.cons (o := _) rfl (fun K hK => ?_) AllReadyH.nil)
    go_simp
    rw [if_pos (by decide)]
    go_at_call 34
    refine (porient_v h h' k1 k1' j j' (by omega) (by omega) (by omega) HO.out).mono ?_
    rintro e w4 ⟨rfl, hb⟩
    replace h := h.below hb
    replace h' := h'.below hb
    replace k1 := k1.below hb
    replace k1' := k1'.below hb
    replace j := j.below hb
    replace j' := j'.below hb
    replace b0 := b0.below hb
    replace b1 := b1.below hb
    replace b2 := b2.below hb
    replace H0 := H0.trans (hb.mono H0.size)
    clear hb
    go_wp2_with fail
    refine hK.out _ _ ⟨b0.cell 0 _ rfl, b0.cell 1 _ rfl, b0.cell 2 _ rfl, b0.cell 3 _ rfl, b0.cell 4 _ rfl, b0.cell 5 _ rfl, b1.cell 0 _ rfl, b1.cell 1 _ rfl, b1.cell 2 _ rfl, b1.cell 3 _ rfl, b1.cell 4 _ rfl, b1.cell 5 _ rfl, b2.cell 0 _ rfl, b2.cell 1 _ rfl, b2.cell 2 _ rfl, b2.cell 3 _ rfl, b2.cell 4 _ rfl, b2.cell 5 _ rfl⟩ (fun hHeld => ?_)
    clear hK K
    (try simp only [List.getElem_toArray, List.getElem_cons_succ, List.getElem_cons_zero, Act.put, List.setIfInBounds_toArray, List.set_cons_zero, List.set_cons_succ])
    refine wpAnyH_take (i := 13) (v := ?_) rfl (by kernel_rfl) (by kernel_rfl) (by kernel_rfl) (fun _ _ _ h => h) (Or.inl ⟨by rfl, ?_⟩) (by assumption) ?_
    rotate_left
    · (intro w hSw; (try dsimp only at hSw); go_simp; (try with_reducible rfl))
    (try simp only [List.getElem_toArray, List.getElem_cons_succ, List.getElem_cons_zero, Act.put, List.setIfInBounds_toArray, List.set_cons_zero, List.set_cons_succ])
    refine wpAnyH_take (i := 14) (v := ?_) rfl (by kernel_rfl) (by kernel_rfl) (by kernel_rfl) (fun _ _ _ h => h) (Or.inl ⟨by rfl, ?_⟩) (by assumption) ?_
    rotate_left
    · (intro w hSw; (try dsimp only at hSw); go_simp; (try with_reducible rfl))
    (try simp only [List.getElem_toArray, List.getElem_cons_succ, List.getElem_cons_zero, Act.put, List.setIfInBounds_toArray, List.set_cons_zero, List.set_cons_succ])
    refine wpAnyH_take (i := 15) (v := ?_) rfl (by kernel_rfl) (by kernel_rfl) (by kernel_rfl) (fun _ _ _ h => h) (Or.inl ⟨by rfl, ?_⟩) (by assumption) ?_
    rotate_left
    · (intro w hSw; (try dsimp only at hSw); go_simp; (try with_reducible rfl))
    (try simp only [List.getElem_toArray, List.getElem_cons_succ, List.getElem_cons_zero, Act.put, List.setIfInBounds_toArray, List.set_cons_zero, List.set_cons_succ])
    refine wpAnyH_done (by kernel_rfl) ?_ _
    refine NoPanic.normal ?_
    go_wp2_with fail
    go_returns
    exact ⟨rfl, H0⟩
  · have hb2 : b = ((ko : Int) == 0) := by rw [← hb]; rfl
    subst hb2
    clear hb
    go_enter Tryz.func43, Tryz.ntmps43
    go_wp2_with fail
    obtain ⟨W0, hW, b0, b1, b2, hbW, hszW0⟩ := boxes3 w #[.bool s0, .slice A0 n0 c0, .slice D0 m0 e0, .bool s1, .slice A1 n1 c1, .slice D1 m1 e1] #[.bool s2, .slice A2 n2 c2, .slice D2 m2 e2, .bool s3, .slice A3 n3 c3, .slice D3 m3 e3] #[.bool s4, .slice A4 n4 c4, .slice D4 m4 e4, .bool s5, .slice A5 n5 c5, .slice D5 m5 e5] 29 29 29
    rw [hW]
    clear hW
    replace h := h.below hbW
    replace h' := h'.below hbW
    replace k1 := k1.below hbW
    replace k1' := k1'.below hbW
    replace j := j.below hbW
    replace j' := j'.below hbW
    have H0 := hbW
    clear hbW
    have hD := drawn_below W0
    replace h := h.below hD
    replace h' := h'.below hD
    replace k1 := k1.below hD
    replace k1' := k1'.below hD
    replace j := j.below hD
    replace j' := j'.below hD
    replace b0 := b0.below hD
    replace b1 := b1.below hD
    replace b2 := b2.below hD
    replace H0 := H0.trans (hD.mono H0.size)
    clear hD
    refine wp_region_noPanic ?_
    refine wp_region_held_drew (S := (fun V => V.cell? ⟨w.heap.size, 0, none⟩ = some (.bool s0) ∧ V.cell? ⟨w.heap.size, 1, none⟩ = some (.slice A0 n0 c0) ∧ V.cell? ⟨w.heap.size, 2, none⟩ = some (.slice D0 m0 e0) ∧ V.cell? ⟨w.heap.size, 3, none⟩ = some (.bool s1) ∧ V.cell? ⟨w.heap.size, 4, none⟩ = some (.slice A1 n1 c1) ∧ V.cell? ⟨w.heap.size, 5, none⟩ = some (.slice D1 m1 e1) ∧ V.cell? ⟨w.heap.size + 1, 0, none⟩ = some (.bool s2) ∧ V.cell? ⟨w.heap.size + 1, 1, none⟩ = some (.slice A2 n2 c2) ∧ V.cell? ⟨w.heap.size + 1, 2, none⟩ = some (.slice D2 m2 e2) ∧ V.cell? ⟨w.heap.size + 1, 3, none⟩ = some (.bool s3) ∧ V.cell? ⟨w.heap.size + 1, 4, none⟩ = some (.slice A3 n3 c3) ∧ V.cell? ⟨w.heap.size + 1, 5, none⟩ = some (.slice D3 m3 e3) ∧ V.cell? ⟨w.heap.size + 1 + 1, 0, none⟩ = some (.bool s4) ∧ V.cell? ⟨w.heap.size + 1 + 1, 1, none⟩ = some (.slice A4 n4 c4) ∧ V.cell? ⟨w.heap.size + 1 + 1, 2, none⟩ = some (.slice D4 m4 e4) ∧ V.cell? ⟨w.heap.size + 1 + 1, 3, none⟩ = some (.bool s5) ∧ V.cell? ⟨w.heap.size + 1 + 1, 4, none⟩ = some (.slice A5 n5 c5) ∧ V.cell? ⟨w.heap.size + 1 + 1, 5, none⟩ = some (.slice D5 m5 e5))) (by kernel_rfl) ⟨b0.cell 0 _ rfl, b0.cell 1 _ rfl, b0.cell 2 _ rfl, b0.cell 3 _ rfl, b0.cell 4 _ rfl, b0.cell 5 _ rfl, b1.cell 0 _ rfl, b1.cell 1 _ rfl, b1.cell 2 _ rfl, b1.cell 3 _ rfl, b1.cell 4 _ rfl, b1.cell 5 _ rfl, b2.cell 0 _ rfl, b2.cell 1 _ rfl, b2.cell 2 _ rfl, b2.cell 3 _ rfl, b2.cell 4 _ rfl, b2.cell 5 _ rfl⟩ (fun hHeld => ?_)
    generalize W0.drew = v1 at H0 hHeld h h' k1 k1' j j' b0 b1 b2 ⊢
    refine wpAnyH_take (i := 0) (v := ?_) rfl (by kernel_rfl) (by kernel_rfl) (by kernel_rfl) (fun _ _ _ h => h) (Or.inl ⟨by rfl, ?_⟩) (by assumption) ?_
    rotate_left
    · (intro w hSw; (try dsimp only at hSw); go_simp; (try with_reducible rfl))
    (try simp only [List.getElem_toArray, List.getElem_cons_zero, Act.put, List.setIfInBounds_toArray, List.set_cons_zero, List.set_cons_succ])
    refine wpAnyH_take (i := 1) (v := ?_) rfl (by kernel_rfl) (by kernel_rfl) (by kernel_rfl) (fun _ _ _ h => h) (Or.inl ⟨by rfl, ?_⟩) (by assumption) ?_
    rotate_left
    · (intro w hSw; (try dsimp only at hSw); go_simp; (try with_reducible rfl))
    (try simp only [List.getElem_toArray, List.getElem_cons_succ, List.getElem_cons_zero, Act.put, List.setIfInBounds_toArray, List.set_cons_zero, List.set_cons_succ])
    refine wpAnyH_take (i := 3) (v := ?_) rfl (by kernel_rfl) (by kernel_rfl) (by kernel_rfl) (fun _ _ _ h => h) (Or.inl ⟨by rfl, ?_⟩) (by assumption) ?_
    rotate_left
    · (intro w hSw; (try dsimp only at hSw); go_simp; (try with_reducible rfl))
    (try simp only [List.getElem_toArray, List.getElem_cons_succ, List.getElem_cons_zero, Act.put, List.setIfInBounds_toArray, List.set_cons_zero, List.set_cons_succ])
    refine wpAnyH_take (i := 4) (v := ?_) rfl (by kernel_rfl) (by kernel_rfl) (by kernel_rfl) (fun _ _ _ h => h) (Or.inl ⟨by rfl, ?_⟩) (by assumption) ?_
    rotate_left
    · (intro w hSw; (try dsimp only at hSw); go_simp; (try with_reducible rfl))
    (try simp only [List.getElem_toArray, List.getElem_cons_succ, List.getElem_cons_zero, Act.put, List.setIfInBounds_toArray, List.set_cons_zero, List.set_cons_succ])
    refine wpAnyH_ready (rs := [2]) (by kernel_rfl) (by simp) (AllReadyH.cons (o := _) rfl (fun K hK => ?_) AllReadyH.nil)
    go_simp
    go_at_call 39
    refine (pcompare_v h h' j j' (by omega) (by omega) E1.out).mono ?_
    rintro e w2 ⟨rfl, hb⟩
    replace h := h.below hb
    replace h' := h'.below hb
    replace k1 := k1.below hb
    replace k1' := k1'.below hb
    replace j := j.below hb
    replace j' := j'.below hb
    replace b0 := b0.below hb
    replace b1 := b1.below hb
    replace b2 := b2.below hb
    replace H0 := H0.trans (hb.mono H0.size)
    clear hb
    go_wp2_with fail
    refine hK.out _ _ ⟨b0.cell 0 _ rfl, b0.cell 1 _ rfl, b0.cell 2 _ rfl, b0.cell 3 _ rfl, b0.cell 4 _ rfl, b0.cell 5 _ rfl, b1.cell 0 _ rfl, b1.cell 1 _ rfl, b1.cell 2 _ rfl, b1.cell 3 _ rfl, b1.cell 4 _ rfl, b1.cell 5 _ rfl, b2.cell 0 _ rfl, b2.cell 1 _ rfl, b2.cell 2 _ rfl, b2.cell 3 _ rfl, b2.cell 4 _ rfl, b2.cell 5 _ rfl⟩ (fun hHeld => ?_)
    clear hK K
    (try simp only [List.getElem_toArray, List.getElem_cons_succ, List.getElem_cons_zero, Act.put, List.setIfInBounds_toArray, List.set_cons_zero, List.set_cons_succ])
    refine wpAnyH_ready (rs := [5]) (by kernel_rfl) (by simp) (AllReadyH.cons (o := _) rfl (fun K hK => ?_) AllReadyH.nil)
    go_simp
    go_at_call 39
    refine (pcompare_v j j' k1 k1' (by omega) (by omega) E2.out).mono ?_
    rintro e w3 ⟨rfl, hb⟩
    replace h := h.below hb
    replace h' := h'.below hb
    replace k1 := k1.below hb
    replace k1' := k1'.below hb
    replace j := j.below hb
    replace j' := j'.below hb
    replace b0 := b0.below hb
    replace b1 := b1.below hb
    replace b2 := b2.below hb
    replace H0 := H0.trans (hb.mono H0.size)
    clear hb
    go_wp2_with fail
    refine hK.out _ _ ⟨b0.cell 0 _ rfl, b0.cell 1 _ rfl, b0.cell 2 _ rfl, b0.cell 3 _ rfl, b0.cell 4 _ rfl, b0.cell 5 _ rfl, b1.cell 0 _ rfl, b1.cell 1 _ rfl, b1.cell 2 _ rfl, b1.cell 3 _ rfl, b1.cell 4 _ rfl, b1.cell 5 _ rfl, b2.cell 0 _ rfl, b2.cell 1 _ rfl, b2.cell 2 _ rfl, b2.cell 3 _ rfl, b2.cell 4 _ rfl, b2.cell 5 _ rfl⟩ (fun hHeld => ?_)
    clear hK K
    (try simp only [List.getElem_toArray, List.getElem_cons_succ, List.getElem_cons_zero, Act.put, List.setIfInBounds_toArray, List.set_cons_zero, List.set_cons_succ])
    refine wpAnyH_take (i := 6) (v := ?_) rfl (by kernel_rfl) (by kernel_rfl) (by kernel_rfl) (fun _ _ _ h => h) (Or.inl ⟨by rfl, ?_⟩) (by assumption) ?_
    rotate_left
    · (intro w hSw; (try dsimp only at hSw); go_simp; (try with_reducible rfl))
    (try simp only [List.getElem_toArray, List.getElem_cons_succ, List.getElem_cons_zero, Act.put, List.setIfInBounds_toArray, List.set_cons_zero, List.set_cons_succ])
    refine wpAnyH_take (i := 7) (v := ?_) rfl (by kernel_rfl) (by kernel_rfl) (by kernel_rfl) (fun _ _ _ h => h) (Or.inl ⟨by rfl, ?_⟩) (by assumption) ?_
    rotate_left
    · (intro w hSw; (try dsimp only at hSw); go_simp; (try with_reducible rfl))
    (try simp only [List.getElem_toArray, List.getElem_cons_succ, List.getElem_cons_zero, Act.put, List.setIfInBounds_toArray, List.set_cons_zero, List.set_cons_succ])
    refine wpAnyH_take (i := 8) (v := ?_) rfl (by kernel_rfl) (by kernel_rfl) (by kernel_rfl) (fun _ _ _ h => h) (Or.inl ⟨by rfl, ?_⟩) (by assumption) ?_
    rotate_left
    · (intro w hSw; (try dsimp only at hSw); go_simp; (try with_reducible rfl))
    (try simp only [List.getElem_toArray, List.getElem_cons_succ, List.getElem_cons_zero, Act.put, List.setIfInBounds_toArray, List.set_cons_zero, List.set_cons_succ])
    refine wpAnyH_take (i := 9) (v := ?_) rfl (by kernel_rfl) (by kernel_rfl) (by kernel_rfl) (fun _ _ _ h => h) (Or.inl ⟨by rfl, ?_⟩) (by assumption) ?_
    rotate_left
    · (intro w hSw; (try dsimp only at hSw); go_simp; (try with_reducible rfl))
    (try simp only [List.getElem_toArray, List.getElem_cons_succ, List.getElem_cons_zero, Act.put, List.setIfInBounds_toArray, List.set_cons_zero, List.set_cons_succ])
    refine wpAnyH_take (i := 10) (v := ?_) rfl (by kernel_rfl) (by kernel_rfl) (by kernel_rfl) (fun _ _ _ h => h) (Or.inl ⟨by rfl, ?_⟩) (by assumption) ?_
    rotate_left
    · (intro w hSw; (try dsimp only at hSw); go_simp; (try with_reducible rfl))
    (try simp only [List.getElem_toArray, List.getElem_cons_succ, List.getElem_cons_zero, Act.put, List.setIfInBounds_toArray, List.set_cons_zero, List.set_cons_succ])
    refine wpAnyH_take (i := 11) (v := ?_) rfl (by kernel_rfl) (by kernel_rfl) (by kernel_rfl) (fun _ _ _ h => h) (Or.inl ⟨by rfl, ?_⟩) (by assumption) ?_
    rotate_left
    · (intro w hSw; (try dsimp only at hSw); go_simp; (try with_reducible rfl))
    (try simp only [List.getElem_toArray, List.getElem_cons_succ, List.getElem_cons_zero, Act.put, List.setIfInBounds_toArray, List.set_cons_zero, List.set_cons_succ])
    refine wpAnyH_ready (rs := [12]) (by kernel_rfl) (by simp) (AllReadyH.cons (o := _) rfl (fun K hK => ?_) AllReadyH.nil)
    go_simp
    rw [if_pos (by decide)]
    go_at_call 34
    refine (porient_v h h' k1 k1' j j' (by omega) (by omega) (by omega) HO.out).mono ?_
    rintro e w4 ⟨rfl, hb⟩
    replace h := h.below hb
    replace h' := h'.below hb
    replace k1 := k1.below hb
    replace k1' := k1'.below hb
    replace j := j.below hb
    replace j' := j'.below hb
    replace b0 := b0.below hb
    replace b1 := b1.below hb
    replace b2 := b2.below hb
    replace H0 := H0.trans (hb.mono H0.size)
    clear hb
    go_wp2_with fail
    refine hK.out _ _ ⟨b0.cell 0 _ rfl, b0.cell 1 _ rfl, b0.cell 2 _ rfl, b0.cell 3 _ rfl, b0.cell 4 _ rfl, b0.cell 5 _ rfl, b1.cell 0 _ rfl, b1.cell 1 _ rfl, b1.cell 2 _ rfl, b1.cell 3 _ rfl, b1.cell 4 _ rfl, b1.cell 5 _ rfl, b2.cell 0 _ rfl, b2.cell 1 _ rfl, b2.cell 2 _ rfl, b2.cell 3 _ rfl, b2.cell 4 _ rfl, b2.cell 5 _ rfl⟩ (fun hHeld => ?_)
    clear hK K
    (try simp only [List.getElem_toArray, List.getElem_cons_succ, List.getElem_cons_zero, Act.put, List.setIfInBounds_toArray, List.set_cons_zero, List.set_cons_succ])
    refine wpAnyH_take (i := 13) (v := ?_) rfl (by kernel_rfl) (by kernel_rfl) (by kernel_rfl) (fun _ _ _ h => h) (Or.inl ⟨by rfl, ?_⟩) (by assumption) ?_
    rotate_left
    · (intro w hSw; (try dsimp only at hSw); go_simp; (try with_reducible rfl))
    (try simp only [List.getElem_toArray, List.getElem_cons_succ, List.getElem_cons_zero, Act.put, List.setIfInBounds_toArray, List.set_cons_zero, List.set_cons_succ])
    refine wpAnyH_take (i := 14) (v := ?_) rfl (by kernel_rfl) (by kernel_rfl) (by kernel_rfl) (fun _ _ _ h => h) (Or.inl ⟨by rfl, ?_⟩) (by assumption) ?_
    rotate_left
    · (intro w hSw; (try dsimp only at hSw); go_simp; (try with_reducible rfl))
    (try simp only [List.getElem_toArray, List.getElem_cons_succ, List.getElem_cons_zero, Act.put, List.setIfInBounds_toArray, List.set_cons_zero, List.set_cons_succ])
    refine wpAnyH_take (i := 15) (v := ?_) rfl (by kernel_rfl) (by kernel_rfl) (by kernel_rfl) (fun _ _ _ h => h) (Or.inl ⟨by rfl, ?_⟩) (by assumption) ?_
    rotate_left
    · (intro w hSw; (try dsimp only at hSw); go_simp; (try with_reducible rfl))
    (try simp only [List.getElem_toArray, List.getElem_cons_succ, List.getElem_cons_zero, Act.put, List.setIfInBounds_toArray, List.set_cons_zero, List.set_cons_succ])
    refine wpAnyH_done (by kernel_rfl) ?_ _
    refine NoPanic.normal ?_
    go_wp2_with fail
    go_returns
    exact ⟨rfl, H0⟩
  · have hb2 : b = ((ko : Int) == 0) := by rw [← hb]; rfl
    subst hb2
    clear hb
    go_enter Tryz.func43, Tryz.ntmps43
    go_wp2_with fail
    obtain ⟨W0, hW, b0, b1, b2, hbW, hszW0⟩ := boxes3 w #[.bool s0, .slice A0 n0 c0, .slice D0 m0 e0, .bool s1, .slice A1 n1 c1, .slice D1 m1 e1] #[.bool s2, .slice A2 n2 c2, .slice D2 m2 e2, .bool s3, .slice A3 n3 c3, .slice D3 m3 e3] #[.bool s4, .slice A4 n4 c4, .slice D4 m4 e4, .bool s5, .slice A5 n5 c5, .slice D5 m5 e5] 29 29 29
    rw [hW]
    clear hW
    replace h := h.below hbW
    replace h' := h'.below hbW
    replace k1 := k1.below hbW
    replace k1' := k1'.below hbW
    replace j := j.below hbW
    replace j' := j'.below hbW
    have H0 := hbW
    clear hbW
    have hD := drawn_below W0
    replace h := h.below hD
    replace h' := h'.below hD
    replace k1 := k1.below hD
    replace k1' := k1'.below hD
    replace j := j.below hD
    replace j' := j'.below hD
    replace b0 := b0.below hD
    replace b1 := b1.below hD
    replace b2 := b2.below hD
    replace H0 := H0.trans (hD.mono H0.size)
    clear hD
    refine wp_region_noPanic ?_
    refine wp_region_held_drew (S := (fun V => V.cell? ⟨w.heap.size, 0, none⟩ = some (.bool s0) ∧ V.cell? ⟨w.heap.size, 1, none⟩ = some (.slice A0 n0 c0) ∧ V.cell? ⟨w.heap.size, 2, none⟩ = some (.slice D0 m0 e0) ∧ V.cell? ⟨w.heap.size, 3, none⟩ = some (.bool s1) ∧ V.cell? ⟨w.heap.size, 4, none⟩ = some (.slice A1 n1 c1) ∧ V.cell? ⟨w.heap.size, 5, none⟩ = some (.slice D1 m1 e1) ∧ V.cell? ⟨w.heap.size + 1, 0, none⟩ = some (.bool s2) ∧ V.cell? ⟨w.heap.size + 1, 1, none⟩ = some (.slice A2 n2 c2) ∧ V.cell? ⟨w.heap.size + 1, 2, none⟩ = some (.slice D2 m2 e2) ∧ V.cell? ⟨w.heap.size + 1, 3, none⟩ = some (.bool s3) ∧ V.cell? ⟨w.heap.size + 1, 4, none⟩ = some (.slice A3 n3 c3) ∧ V.cell? ⟨w.heap.size + 1, 5, none⟩ = some (.slice D3 m3 e3) ∧ V.cell? ⟨w.heap.size + 1 + 1, 0, none⟩ = some (.bool s4) ∧ V.cell? ⟨w.heap.size + 1 + 1, 1, none⟩ = some (.slice A4 n4 c4) ∧ V.cell? ⟨w.heap.size + 1 + 1, 2, none⟩ = some (.slice D4 m4 e4) ∧ V.cell? ⟨w.heap.size + 1 + 1, 3, none⟩ = some (.bool s5) ∧ V.cell? ⟨w.heap.size + 1 + 1, 4, none⟩ = some (.slice A5 n5 c5) ∧ V.cell? ⟨w.heap.size + 1 + 1, 5, none⟩ = some (.slice D5 m5 e5))) (by kernel_rfl) ⟨b0.cell 0 _ rfl, b0.cell 1 _ rfl, b0.cell 2 _ rfl, b0.cell 3 _ rfl, b0.cell 4 _ rfl, b0.cell 5 _ rfl, b1.cell 0 _ rfl, b1.cell 1 _ rfl, b1.cell 2 _ rfl, b1.cell 3 _ rfl, b1.cell 4 _ rfl, b1.cell 5 _ rfl, b2.cell 0 _ rfl, b2.cell 1 _ rfl, b2.cell 2 _ rfl, b2.cell 3 _ rfl, b2.cell 4 _ rfl, b2.cell 5 _ rfl⟩ (fun hHeld => ?_)
    generalize W0.drew = v1 at H0 hHeld h h' k1 k1' j j' b0 b1 b2 ⊢
    refine wpAnyH_take (i := 0) (v := ?_) rfl (by kernel_rfl) (by kernel_rfl) (by kernel_rfl) (fun _ _ _ h => h) (Or.inl ⟨by rfl, ?_⟩) (by assumption) ?_
    rotate_left
    · (intro w hSw; (try dsimp only at hSw); go_simp; (try with_reducible rfl))
    (try simp only [List.getElem_toArray, List.getElem_cons_zero, Act.put, List.setIfInBounds_toArray, List.set_cons_zero, List.set_cons_succ])
    refine wpAnyH_take (i := 1) (v := ?_) rfl (by kernel_rfl) (by kernel_rfl) (by kernel_rfl) (fun _ _ _ h => h) (Or.inl ⟨by rfl, ?_⟩) (by assumption) ?_
    rotate_left
    · (intro w hSw; (try dsimp only at hSw); go_simp; (try with_reducible rfl))
    (try simp only [List.getElem_toArray, List.getElem_cons_succ, List.getElem_cons_zero, Act.put, List.setIfInBounds_toArray, List.set_cons_zero, List.set_cons_succ])
    refine wpAnyH_take (i := 3) (v := ?_) rfl (by kernel_rfl) (by kernel_rfl) (by kernel_rfl) (fun _ _ _ h => h) (Or.inl ⟨by rfl, ?_⟩) (by assumption) ?_
    rotate_left
    · (intro w hSw; (try dsimp only at hSw); go_simp; (try with_reducible rfl))
    (try simp only [List.getElem_toArray, List.getElem_cons_succ, List.getElem_cons_zero, Act.put, List.setIfInBounds_toArray, List.set_cons_zero, List.set_cons_succ])
    refine wpAnyH_take (i := 4) (v := ?_) rfl (by kernel_rfl) (by kernel_rfl) (by kernel_rfl) (fun _ _ _ h => h) (Or.inl ⟨by rfl, ?_⟩) (by assumption) ?_
    rotate_left
    · (intro w hSw; (try dsimp only at hSw); go_simp; (try with_reducible rfl))
    (try simp only [List.getElem_toArray, List.getElem_cons_succ, List.getElem_cons_zero, Act.put, List.setIfInBounds_toArray, List.set_cons_zero, List.set_cons_succ])
    refine wpAnyH_ready (rs := [2]) (by kernel_rfl) (by simp) (AllReadyH.cons (o := _) rfl (fun K hK => ?_) AllReadyH.nil)
    go_simp
    go_at_call 39
    refine (pcompare_v h h' j j' (by omega) (by omega) E1.out).mono ?_
    rintro e w2 ⟨rfl, hb⟩
    replace h := h.below hb
    replace h' := h'.below hb
    replace k1 := k1.below hb
    replace k1' := k1'.below hb
    replace j := j.below hb
    replace j' := j'.below hb
    replace b0 := b0.below hb
    replace b1 := b1.below hb
    replace b2 := b2.below hb
    replace H0 := H0.trans (hb.mono H0.size)
    clear hb
    go_wp2_with fail
    refine hK.out _ _ ⟨b0.cell 0 _ rfl, b0.cell 1 _ rfl, b0.cell 2 _ rfl, b0.cell 3 _ rfl, b0.cell 4 _ rfl, b0.cell 5 _ rfl, b1.cell 0 _ rfl, b1.cell 1 _ rfl, b1.cell 2 _ rfl, b1.cell 3 _ rfl, b1.cell 4 _ rfl, b1.cell 5 _ rfl, b2.cell 0 _ rfl, b2.cell 1 _ rfl, b2.cell 2 _ rfl, b2.cell 3 _ rfl, b2.cell 4 _ rfl, b2.cell 5 _ rfl⟩ (fun hHeld => ?_)
    clear hK K
    (try simp only [List.getElem_toArray, List.getElem_cons_succ, List.getElem_cons_zero, Act.put, List.setIfInBounds_toArray, List.set_cons_zero, List.set_cons_succ])
    refine wpAnyH_ready (rs := [5]) (by kernel_rfl) (by simp) (AllReadyH.cons (o := _) rfl (fun K hK => ?_) AllReadyH.nil)
    go_simp
    go_at_call 39
    refine (pcompare_v j j' k1 k1' (by omega) (by omega) E2.out).mono ?_
    rintro e w3 ⟨rfl, hb⟩
    replace h := h.below hb
    replace h' := h'.below hb
    replace k1 := k1.below hb
    replace k1' := k1'.below hb
    replace j := j.below hb
    replace j' := j'.below hb
    replace b0 := b0.below hb
    replace b1 := b1.below hb
    replace b2 := b2.below hb
    replace H0 := H0.trans (hb.mono H0.size)
    clear hb
    go_wp2_with fail
    refine hK.out _ _ ⟨b0.cell 0 _ rfl, b0.cell 1 _ rfl, b0.cell 2 _ rfl, b0.cell 3 _ rfl, b0.cell 4 _ rfl, b0.cell 5 _ rfl, b1.cell 0 _ rfl, b1.cell 1 _ rfl, b1.cell 2 _ rfl, b1.cell 3 _ rfl, b1.cell 4 _ rfl, b1.cell 5 _ rfl, b2.cell 0 _ rfl, b2.cell 1 _ rfl, b2.cell 2 _ rfl, b2.cell 3 _ rfl, b2.cell 4 _ rfl, b2.cell 5 _ rfl⟩ (fun hHeld => ?_)
    clear hK K
    (try simp only [List.getElem_toArray, List.getElem_cons_succ, List.getElem_cons_zero, Act.put, List.setIfInBounds_toArray, List.set_cons_zero, List.set_cons_succ])
    refine wpAnyH_take (i := 6) (v := ?_) rfl (by kernel_rfl) (by kernel_rfl) (by kernel_rfl) (fun _ _ _ h => h) (Or.inl ⟨by rfl, ?_⟩) (by assumption) ?_
    rotate_left
    · (intro w hSw; (try dsimp only at hSw); go_simp; (try with_reducible rfl))
    (try simp only [List.getElem_toArray, List.getElem_cons_succ, List.getElem_cons_zero, Act.put, List.setIfInBounds_toArray, List.set_cons_zero, List.set_cons_succ])
    refine wpAnyH_take (i := 7) (v := ?_) rfl (by kernel_rfl) (by kernel_rfl) (by kernel_rfl) (fun _ _ _ h => h) (Or.inl ⟨by rfl, ?_⟩) (by assumption) ?_
    rotate_left
    · (intro w hSw; (try dsimp only at hSw); go_simp; (try with_reducible rfl))
    (try simp only [List.getElem_toArray, List.getElem_cons_succ, List.getElem_cons_zero, Act.put, List.setIfInBounds_toArray, List.set_cons_zero, List.set_cons_succ])
    refine wpAnyH_take (i := 8) (v := ?_) rfl (by kernel_rfl) (by kernel_rfl) (by kernel_rfl) (fun _ _ _ h => h) (Or.inl ⟨by rfl, ?_⟩) (by assumption) ?_
    rotate_left
    · (intro w hSw; (try dsimp only at hSw); go_simp; (try with_reducible rfl))
    (try simp only [List.getElem_toArray, List.getElem_cons_succ, List.getElem_cons_zero, Act.put, List.setIfInBounds_toArray, List.set_cons_zero, List.set_cons_succ])
    refine wpAnyH_take (i := 9) (v := ?_) rfl (by kernel_rfl) (by kernel_rfl) (by kernel_rfl) (fun _ _ _ h => h) (Or.inl ⟨by rfl, ?_⟩) (by assumption) ?_
    rotate_left
    · (intro w hSw; (try dsimp only at hSw); go_simp; (try with_reducible rfl))
    (try simp only [List.getElem_toArray, List.getElem_cons_succ, List.getElem_cons_zero, Act.put, List.setIfInBounds_toArray, List.set_cons_zero, List.set_cons_succ])
    refine wpAnyH_take (i := 10) (v := ?_) rfl (by kernel_rfl) (by kernel_rfl) (by kernel_rfl) (fun _ _ _ h => h) (Or.inl ⟨by rfl, ?_⟩) (by assumption) ?_
    rotate_left
    · (intro w hSw; (try dsimp only at hSw); go_simp; (try with_reducible rfl))
    (try simp only [List.getElem_toArray, List.getElem_cons_succ, List.getElem_cons_zero, Act.put, List.setIfInBounds_toArray, List.set_cons_zero, List.set_cons_succ])
    refine wpAnyH_take (i := 11) (v := ?_) rfl (by kernel_rfl) (by kernel_rfl) (by kernel_rfl) (fun _ _ _ h => h) (Or.inl ⟨by rfl, ?_⟩) (by assumption) ?_
    rotate_left
    · (intro w hSw; (try dsimp only at hSw); go_simp; (try with_reducible rfl))
    (try simp only [List.getElem_toArray, List.getElem_cons_succ, List.getElem_cons_zero, Act.put, List.setIfInBounds_toArray, List.set_cons_zero, List.set_cons_succ])
    refine wpAnyH_ready (rs := [12]) (by kernel_rfl) (by simp) (AllReadyH.cons (o := _) rfl (fun K hK => ?_) AllReadyH.nil)
    go_simp
    rw [if_pos (by decide)]
    go_at_call 34
    refine (porient_v h h' k1 k1' j j' (by omega) (by omega) (by omega) HO.out).mono ?_
    rintro e w4 ⟨rfl, hb⟩
    replace h := h.below hb
    replace h' := h'.below hb
    replace k1 := k1.below hb
    replace k1' := k1'.below hb
    replace j := j.below hb
    replace j' := j'.below hb
    replace b0 := b0.below hb
    replace b1 := b1.below hb
    replace b2 := b2.below hb
    replace H0 := H0.trans (hb.mono H0.size)
    clear hb
    go_wp2_with fail
    refine hK.out _ _ ⟨b0.cell 0 _ rfl, b0.cell 1 _ rfl, b0.cell 2 _ rfl, b0.cell 3 _ rfl, b0.cell 4 _ rfl, b0.cell 5 _ rfl, b1.cell 0 _ rfl, b1.cell 1 _ rfl, b1.cell 2 _ rfl, b1.cell 3 _ rfl, b1.cell 4 _ rfl, b1.cell 5 _ rfl, b2.cell 0 _ rfl, b2.cell 1 _ rfl, b2.cell 2 _ rfl, b2.cell 3 _ rfl, b2.cell 4 _ rfl, b2.cell 5 _ rfl⟩ (fun hHeld => ?_)
    clear hK K
    (try simp only [List.getElem_toArray, List.getElem_cons_succ, List.getElem_cons_zero, Act.put, List.setIfInBounds_toArray, List.set_cons_zero, List.set_cons_succ])
    refine wpAnyH_take (i := 13) (v := ?_) rfl (by kernel_rfl) (by kernel_rfl) (by kernel_rfl) (fun _ _ _ h => h) (Or.inl ⟨by rfl, ?_⟩) (by assumption) ?_
    rotate_left
    · (intro w hSw; (try dsimp only at hSw); go_simp; (try with_reducible rfl))
    (try simp only [List.getElem_toArray, List.getElem_cons_succ, List.getElem_cons_zero, Act.put, List.setIfInBounds_toArray, List.set_cons_zero, List.set_cons_succ])
    refine wpAnyH_take (i := 14) (v := ?_) rfl (by kernel_rfl) (by kernel_rfl) (by kernel_rfl) (fun _ _ _ h => h) (Or.inl ⟨by rfl, ?_⟩) (by assumption) ?_
    rotate_left
    · (intro w hSw; (try dsimp only at hSw); go_simp; (try with_reducible rfl))
    (try simp only [List.getElem_toArray, List.getElem_cons_succ, List.getElem_cons_zero, Act.put, List.setIfInBounds_toArray, List.set_cons_zero, List.set_cons_succ])
    refine wpAnyH_take (i := 15) (v := ?_) rfl (by kernel_rfl) (by kernel_rfl) (by kernel_rfl) (fun _ _ _ h => h) (Or.inl ⟨by rfl, ?_⟩) (by assumption) ?_
    rotate_left
    · (intro w hSw; (try dsimp only at hSw); go_simp; (try with_reducible rfl))
    (try simp only [List.getElem_toArray, List.getElem_cons_succ, List.getElem_cons_zero, Act.put, List.setIfInBounds_toArray, List.set_cons_zero, List.set_cons_succ])
    refine wpAnyH_done (by kernel_rfl) ?_ _
    refine NoPanic.normal ?_
    go_wp2_with fail
    go_returns
    exact ⟨rfl, H0⟩
  · have hb2 : b = false := by rw [← hb]; rfl
    subst hb2
    clear hb
    go_enter Tryz.func43, Tryz.ntmps43
    go_wp2_with fail
    obtain ⟨W0, hW, b0, b1, b2, hbW, hszW0⟩ := boxes3 w #[.bool s0, .slice A0 n0 c0, .slice D0 m0 e0, .bool s1, .slice A1 n1 c1, .slice D1 m1 e1] #[.bool s2, .slice A2 n2 c2, .slice D2 m2 e2, .bool s3, .slice A3 n3 c3, .slice D3 m3 e3] #[.bool s4, .slice A4 n4 c4, .slice D4 m4 e4, .bool s5, .slice A5 n5 c5, .slice D5 m5 e5] 29 29 29
    rw [hW]
    clear hW
    replace h := h.below hbW
    replace h' := h'.below hbW
    replace k1 := k1.below hbW
    replace k1' := k1'.below hbW
    replace j := j.below hbW
    replace j' := j'.below hbW
    have H0 := hbW
    clear hbW
    have hD := drawn_below W0
    replace h := h.below hD
    replace h' := h'.below hD
    replace k1 := k1.below hD
    replace k1' := k1'.below hD
    replace j := j.below hD
    replace j' := j'.below hD
    replace b0 := b0.below hD
    replace b1 := b1.below hD
    replace b2 := b2.below hD
    replace H0 := H0.trans (hD.mono H0.size)
    clear hD
    refine wp_region_noPanic ?_
    refine wp_region_held_drew (S := (fun V => V.cell? ⟨w.heap.size, 0, none⟩ = some (.bool s0) ∧ V.cell? ⟨w.heap.size, 1, none⟩ = some (.slice A0 n0 c0) ∧ V.cell? ⟨w.heap.size, 2, none⟩ = some (.slice D0 m0 e0) ∧ V.cell? ⟨w.heap.size, 3, none⟩ = some (.bool s1) ∧ V.cell? ⟨w.heap.size, 4, none⟩ = some (.slice A1 n1 c1) ∧ V.cell? ⟨w.heap.size, 5, none⟩ = some (.slice D1 m1 e1) ∧ V.cell? ⟨w.heap.size + 1, 0, none⟩ = some (.bool s2) ∧ V.cell? ⟨w.heap.size + 1, 1, none⟩ = some (.slice A2 n2 c2) ∧ V.cell? ⟨w.heap.size + 1, 2, none⟩ = some (.slice D2 m2 e2) ∧ V.cell? ⟨w.heap.size + 1, 3, none⟩ = some (.bool s3) ∧ V.cell? ⟨w.heap.size + 1, 4, none⟩ = some (.slice A3 n3 c3) ∧ V.cell? ⟨w.heap.size + 1, 5, none⟩ = some (.slice D3 m3 e3) ∧ V.cell? ⟨w.heap.size + 1 + 1, 0, none⟩ = some (.bool s4) ∧ V.cell? ⟨w.heap.size + 1 + 1, 1, none⟩ = some (.slice A4 n4 c4) ∧ V.cell? ⟨w.heap.size + 1 + 1, 2, none⟩ = some (.slice D4 m4 e4) ∧ V.cell? ⟨w.heap.size + 1 + 1, 3, none⟩ = some (.bool s5) ∧ V.cell? ⟨w.heap.size + 1 + 1, 4, none⟩ = some (.slice A5 n5 c5) ∧ V.cell? ⟨w.heap.size + 1 + 1, 5, none⟩ = some (.slice D5 m5 e5))) (by kernel_rfl) ⟨b0.cell 0 _ rfl, b0.cell 1 _ rfl, b0.cell 2 _ rfl, b0.cell 3 _ rfl, b0.cell 4 _ rfl, b0.cell 5 _ rfl, b1.cell 0 _ rfl, b1.cell 1 _ rfl, b1.cell 2 _ rfl, b1.cell 3 _ rfl, b1.cell 4 _ rfl, b1.cell 5 _ rfl, b2.cell 0 _ rfl, b2.cell 1 _ rfl, b2.cell 2 _ rfl, b2.cell 3 _ rfl, b2.cell 4 _ rfl, b2.cell 5 _ rfl⟩ (fun hHeld => ?_)
    generalize W0.drew = v1 at H0 hHeld h h' k1 k1' j j' b0 b1 b2 ⊢
    refine wpAnyH_take (i := 0) (v := ?_) rfl (by kernel_rfl) (by kernel_rfl) (by kernel_rfl) (fun _ _ _ h => h) (Or.inl ⟨by rfl, ?_⟩) (by assumption) ?_
    rotate_left
    · (intro w hSw; (try dsimp only at hSw); go_simp; (try with_reducible rfl))
    (try simp only [List.getElem_toArray, List.getElem_cons_zero, Act.put, List.setIfInBounds_toArray, List.set_cons_zero, List.set_cons_succ])
    refine wpAnyH_take (i := 1) (v := ?_) rfl (by kernel_rfl) (by kernel_rfl) (by kernel_rfl) (fun _ _ _ h => h) (Or.inl ⟨by rfl, ?_⟩) (by assumption) ?_
    rotate_left
    · (intro w hSw; (try dsimp only at hSw); go_simp; (try with_reducible rfl))
    (try simp only [List.getElem_toArray, List.getElem_cons_succ, List.getElem_cons_zero, Act.put, List.setIfInBounds_toArray, List.set_cons_zero, List.set_cons_succ])
    refine wpAnyH_take (i := 3) (v := ?_) rfl (by kernel_rfl) (by kernel_rfl) (by kernel_rfl) (fun _ _ _ h => h) (Or.inl ⟨by rfl, ?_⟩) (by assumption) ?_
    rotate_left
    · (intro w hSw; (try dsimp only at hSw); go_simp; (try with_reducible rfl))
    (try simp only [List.getElem_toArray, List.getElem_cons_succ, List.getElem_cons_zero, Act.put, List.setIfInBounds_toArray, List.set_cons_zero, List.set_cons_succ])
    refine wpAnyH_take (i := 4) (v := ?_) rfl (by kernel_rfl) (by kernel_rfl) (by kernel_rfl) (fun _ _ _ h => h) (Or.inl ⟨by rfl, ?_⟩) (by assumption) ?_
    rotate_left
    · (intro w hSw; (try dsimp only at hSw); go_simp; (try with_reducible rfl))
    (try simp only [List.getElem_toArray, List.getElem_cons_succ, List.getElem_cons_zero, Act.put, List.setIfInBounds_toArray, List.set_cons_zero, List.set_cons_succ])
    refine wpAnyH_ready (rs := [2]) (by kernel_rfl) (by simp) (AllReadyH.cons (o := _) rfl (fun K hK => ?_) AllReadyH.nil)
    go_simp
    go_at_call 39
    refine (pcompare_v h h' j j' (by omega) (by omega) E1.out).mono ?_
    rintro e w2 ⟨rfl, hb⟩
    replace h := h.below hb
    replace h' := h'.below hb
    replace k1 := k1.below hb
    replace k1' := k1'.below hb
    replace j := j.below hb
    replace j' := j'.below hb
    replace b0 := b0.below hb
    replace b1 := b1.below hb
    replace b2 := b2.below hb
    replace H0 := H0.trans (hb.mono H0.size)
    clear hb
    go_wp2_with fail
    refine hK.out _ _ ⟨b0.cell 0 _ rfl, b0.cell 1 _ rfl, b0.cell 2 _ rfl, b0.cell 3 _ rfl, b0.cell 4 _ rfl, b0.cell 5 _ rfl, b1.cell 0 _ rfl, b1.cell 1 _ rfl, b1.cell 2 _ rfl, b1.cell 3 _ rfl, b1.cell 4 _ rfl, b1.cell 5 _ rfl, b2.cell 0 _ rfl, b2.cell 1 _ rfl, b2.cell 2 _ rfl, b2.cell 3 _ rfl, b2.cell 4 _ rfl, b2.cell 5 _ rfl⟩ (fun hHeld => ?_)
    clear hK K
    (try simp only [List.getElem_toArray, List.getElem_cons_succ, List.getElem_cons_zero, Act.put, List.setIfInBounds_toArray, List.set_cons_zero, List.set_cons_succ])
    refine wpAnyH_ready (rs := [5]) (by kernel_rfl) (by simp) (AllReadyH.cons (o := _) rfl (fun K hK => ?_) AllReadyH.nil)
    go_simp
    go_at_call 39
    refine (pcompare_v j j' k1 k1' (by omega) (by omega) E2.out).mono ?_
    rintro e w3 ⟨rfl, hb⟩
    replace h := h.below hb
    replace h' := h'.below hb
    replace k1 := k1.below hb
    replace k1' := k1'.below hb
    replace j := j.below hb
    replace j' := j'.below hb
    replace b0 := b0.below hb
    replace b1 := b1.below hb
    replace b2 := b2.below hb
    replace H0 := H0.trans (hb.mono H0.size)
    clear hb
    go_wp2_with fail
    refine hK.out _ _ ⟨b0.cell 0 _ rfl, b0.cell 1 _ rfl, b0.cell 2 _ rfl, b0.cell 3 _ rfl, b0.cell 4 _ rfl, b0.cell 5 _ rfl, b1.cell 0 _ rfl, b1.cell 1 _ rfl, b1.cell 2 _ rfl, b1.cell 3 _ rfl, b1.cell 4 _ rfl, b1.cell 5 _ rfl, b2.cell 0 _ rfl, b2.cell 1 _ rfl, b2.cell 2 _ rfl, b2.cell 3 _ rfl, b2.cell 4 _ rfl, b2.cell 5 _ rfl⟩ (fun hHeld => ?_)
    clear hK K
    (try simp only [List.getElem_toArray, List.getElem_cons_succ, List.getElem_cons_zero, Act.put, List.setIfInBounds_toArray, List.set_cons_zero, List.set_cons_succ])
    refine wpAnyH_take (i := 6) (v := ?_) rfl (by kernel_rfl) (by kernel_rfl) (by kernel_rfl) (fun _ _ _ h => h) (Or.inl ⟨by rfl, ?_⟩) (by assumption) ?_
    rotate_left
    · (intro w hSw; (try dsimp only at hSw); go_simp; (try with_reducible rfl))
    (try simp only [List.getElem_toArray, List.getElem_cons_succ, List.getElem_cons_zero, Act.put, List.setIfInBounds_toArray, List.set_cons_zero, List.set_cons_succ])
    refine wpAnyH_take (i := 7) (v := ?_) rfl (by kernel_rfl) (by kernel_rfl) (by kernel_rfl) (fun _ _ _ h => h) (Or.inl ⟨by rfl, ?_⟩) (by assumption) ?_
    rotate_left
    · (intro w hSw; (try dsimp only at hSw); go_simp; (try with_reducible rfl))
    (try simp only [List.getElem_toArray, List.getElem_cons_succ, List.getElem_cons_zero, Act.put, List.setIfInBounds_toArray, List.set_cons_zero, List.set_cons_succ])
    refine wpAnyH_take (i := 8) (v := ?_) rfl (by kernel_rfl) (by kernel_rfl) (by kernel_rfl) (fun _ _ _ h => h) (Or.inl ⟨by rfl, ?_⟩) (by assumption) ?_
    rotate_left
    · (intro w hSw; (try dsimp only at hSw); go_simp; (try with_reducible rfl))
    (try simp only [List.getElem_toArray, List.getElem_cons_succ, List.getElem_cons_zero, Act.put, List.setIfInBounds_toArray, List.set_cons_zero, List.set_cons_succ])
    refine wpAnyH_take (i := 9) (v := undef) rfl (by kernel_rfl) (by kernel_rfl) (by kernel_rfl) (fun _ _ _ h => h) (Or.inr ⟨by rfl, rfl⟩) (by assumption) ?_
    (try simp only [List.getElem_toArray, List.getElem_cons_succ, List.getElem_cons_zero, Act.put, List.setIfInBounds_toArray, List.set_cons_zero, List.set_cons_succ])
    refine wpAnyH_take (i := 10) (v := undef) rfl (by kernel_rfl) (by kernel_rfl) (by kernel_rfl) (fun _ _ _ h => h) (Or.inr ⟨by rfl, rfl⟩) (by assumption) ?_
    (try simp only [List.getElem_toArray, List.getElem_cons_succ, List.getElem_cons_zero, Act.put, List.setIfInBounds_toArray, List.set_cons_zero, List.set_cons_succ])
    refine wpAnyH_take (i := 11) (v := undef) rfl (by kernel_rfl) (by kernel_rfl) (by kernel_rfl) (fun _ _ _ h => h) (Or.inr ⟨by rfl, rfl⟩) (by assumption) ?_
    (try simp only [List.getElem_toArray, List.getElem_cons_succ, List.getElem_cons_zero, Act.put, List.setIfInBounds_toArray, List.set_cons_zero, List.set_cons_succ])
    refine wpAnyH_take (i := 12) (v := undef) rfl (by kernel_rfl) (by kernel_rfl) (by kernel_rfl) (fun _ _ _ h => h) (Or.inr ⟨by rfl, rfl⟩) (by assumption) ?_
    (try simp only [List.getElem_toArray, List.getElem_cons_succ, List.getElem_cons_zero, Act.put, List.setIfInBounds_toArray, List.set_cons_zero, List.set_cons_succ])
    refine wpAnyH_take (i := 13) (v := undef) rfl (by kernel_rfl) (by kernel_rfl) (by kernel_rfl) (fun _ _ _ h => h) (Or.inr ⟨by rfl, rfl⟩) (by assumption) ?_
    (try simp only [List.getElem_toArray, List.getElem_cons_succ, List.getElem_cons_zero, Act.put, List.setIfInBounds_toArray, List.set_cons_zero, List.set_cons_succ])
    refine wpAnyH_take (i := 14) (v := ?_) rfl (by kernel_rfl) (by kernel_rfl) (by kernel_rfl) (fun _ _ _ h => h) (Or.inl ⟨by rfl, ?_⟩) (by assumption) ?_
    rotate_left
    · (intro w hSw; (try dsimp only at hSw); go_simp; (try with_reducible rfl))
    (try simp only [List.getElem_toArray, List.getElem_cons_succ, List.getElem_cons_zero, Act.put, List.setIfInBounds_toArray, List.set_cons_zero, List.set_cons_succ])
    refine wpAnyH_take (i := 15) (v := ?_) rfl (by kernel_rfl) (by kernel_rfl) (by kernel_rfl) (fun _ _ _ h => h) (Or.inl ⟨by rfl, ?_⟩) (by assumption) ?_
    rotate_left
    · (intro w hSw; (try dsimp only at hSw); go_simp; (try with_reducible rfl))
    (try simp only [List.getElem_toArray, List.getElem_cons_succ, List.getElem_cons_zero, Act.put, List.setIfInBounds_toArray, List.set_cons_zero, List.set_cons_succ])
    refine wpAnyH_done (by kernel_rfl) ?_ _
    refine NoPanic.normal ?_
    go_wp2_with fail
    go_returns
    exact ⟨rfl, H0⟩
  · have hb2 : b = ((ko : Int) == 0) := by rw [← hb]; rfl
    subst hb2
    clear hb
    go_enter Tryz.func43, Tryz.ntmps43
    go_wp2_with fail
    obtain ⟨W0, hW, b0, b1, b2, hbW, hszW0⟩ := boxes3 w #[.bool s0, .slice A0 n0 c0, .slice D0 m0 e0, .bool s1, .slice A1 n1 c1, .slice D1 m1 e1] #[.bool s2, .slice A2 n2 c2, .slice D2 m2 e2, .bool s3, .slice A3 n3 c3, .slice D3 m3 e3] #[.bool s4, .slice A4 n4 c4, .slice D4 m4 e4, .bool s5, .slice A5 n5 c5, .slice D5 m5 e5] 29 29 29
    rw [hW]
    clear hW
    replace h := h.below hbW
    replace h' := h'.below hbW
    replace k1 := k1.below hbW
    replace k1' := k1'.below hbW
    replace j := j.below hbW
    replace j' := j'.below hbW
    have H0 := hbW
    clear hbW
    have hD := drawn_below W0
    replace h := h.below hD
    replace h' := h'.below hD
    replace k1 := k1.below hD
    replace k1' := k1'.below hD
    replace j := j.below hD
    replace j' := j'.below hD
    replace b0 := b0.below hD
    replace b1 := b1.below hD
    replace b2 := b2.below hD
    replace H0 := H0.trans (hD.mono H0.size)
    clear hD
    refine wp_region_noPanic ?_
    refine wp_region_held_drew (S := (fun V => V.cell? ⟨w.heap.size, 0, none⟩ = some (.bool s0) ∧ V.cell? ⟨w.heap.size, 1, none⟩ = some (.slice A0 n0 c0) ∧ V.cell? ⟨w.heap.size, 2, none⟩ = some (.slice D0 m0 e0) ∧ V.cell? ⟨w.heap.size, 3, none⟩ = some (.bool s1) ∧ V.cell? ⟨w.heap.size, 4, none⟩ = some (.slice A1 n1 c1) ∧ V.cell? ⟨w.heap.size, 5, none⟩ = some (.slice D1 m1 e1) ∧ V.cell? ⟨w.heap.size + 1, 0, none⟩ = some (.bool s2) ∧ V.cell? ⟨w.heap.size + 1, 1, none⟩ = some (.slice A2 n2 c2) ∧ V.cell? ⟨w.heap.size + 1, 2, none⟩ = some (.slice D2 m2 e2) ∧ V.cell? ⟨w.heap.size + 1, 3, none⟩ = some (.bool s3) ∧ V.cell? ⟨w.heap.size + 1, 4, none⟩ = some (.slice A3 n3 c3) ∧ V.cell? ⟨w.heap.size + 1, 5, none⟩ = some (.slice D3 m3 e3) ∧ V.cell? ⟨w.heap.size + 1 + 1, 0, none⟩ = some (.bool s4) ∧ V.cell? ⟨w.heap.size + 1 + 1, 1, none⟩ = some (.slice A4 n4 c4) ∧ V.cell? ⟨w.heap.size + 1 + 1, 2, none⟩ = some (.slice D4 m4 e4) ∧ V.cell? ⟨w.heap.size + 1 + 1, 3, none⟩ = some (.bool s5) ∧ V.cell? ⟨w.heap.size + 1 + 1, 4, none⟩ = some (.slice A5 n5 c5) ∧ V.cell? ⟨w.heap.size + 1 + 1, 5, none⟩ = some (.slice D5 m5 e5))) (by kernel_rfl) ⟨b0.cell 0 _ rfl, b0.cell 1 _ rfl, b0.cell 2 _ rfl, b0.cell 3 _ rfl, b0.cell 4 _ rfl, b0.cell 5 _ rfl, b1.cell 0 _ rfl, b1.cell 1 _ rfl, b1.cell 2 _ rfl, b1.cell 3 _ rfl, b1.cell 4 _ rfl, b1.cell 5 _ rfl, b2.cell 0 _ rfl, b2.cell 1 _ rfl, b2.cell 2 _ rfl, b2.cell 3 _ rfl, b2.cell 4 _ rfl, b2.cell 5 _ rfl⟩ (fun hHeld => ?_)
    generalize W0.drew = v1 at H0 hHeld h h' k1 k1' j j' b0 b1 b2 ⊢
    refine wpAnyH_take (i := 0) (v := ?_) rfl (by kernel_rfl) (by kernel_rfl) (by kernel_rfl) (fun _ _ _ h => h) (Or.inl ⟨by rfl, ?_⟩) (by assumption) ?_
    rotate_left
    · (intro w hSw; (try dsimp only at hSw); go_simp; (try with_reducible rfl))
    (try simp only [List.getElem_toArray, List.getElem_cons_zero, Act.put, List.setIfInBounds_toArray, List.set_cons_zero, List.set_cons_succ])
    refine wpAnyH_take (i := 1) (v := ?_) rfl (by kernel_rfl) (by kernel_rfl) (by kernel_rfl) (fun _ _ _ h => h) (Or.inl ⟨by rfl, ?_⟩) (by assumption) ?_
    rotate_left
    · (intro w hSw; (try dsimp only at hSw); go_simp; (try with_reducible rfl))
    (try simp only [List.getElem_toArray, List.getElem_cons_succ, List.getElem_cons_zero, Act.put, List.setIfInBounds_toArray, List.set_cons_zero, List.set_cons_succ])
    refine wpAnyH_take (i := 3) (v := ?_) rfl (by kernel_rfl) (by kernel_rfl) (by kernel_rfl) (fun _ _ _ h => h) (Or.inl ⟨by rfl, ?_⟩) (by assumption) ?_
    rotate_left
    · (intro w hSw; (try dsimp only at hSw); go_simp; (try with_reducible rfl))
    (try simp only [List.getElem_toArray, List.getElem_cons_succ, List.getElem_cons_zero, Act.put, List.setIfInBounds_toArray, List.set_cons_zero, List.set_cons_succ])
    refine wpAnyH_take (i := 4) (v := ?_) rfl (by kernel_rfl) (by kernel_rfl) (by kernel_rfl) (fun _ _ _ h => h) (Or.inl ⟨by rfl, ?_⟩) (by assumption) ?_
    rotate_left
    · (intro w hSw; (try dsimp only at hSw); go_simp; (try with_reducible rfl))
    (try simp only [List.getElem_toArray, List.getElem_cons_succ, List.getElem_cons_zero, Act.put, List.setIfInBounds_toArray, List.set_cons_zero, List.set_cons_succ])
    refine wpAnyH_ready (rs := [2]) (by kernel_rfl) (by simp) (AllReadyH.cons (o := _) rfl (fun K hK => ?_) AllReadyH.nil)
    go_simp
    go_at_call 39
    refine (pcompare_v h h' j j' (by omega) (by omega) E1.out).mono ?_
    rintro e w2 ⟨rfl, hb⟩
    replace h := h.below hb
    replace h' := h'.below hb
    replace k1 := k1.below hb
    replace k1' := k1'.below hb
    replace j := j.below hb
    replace j' := j'.below hb
    replace b0 := b0.below hb
    replace b1 := b1.below hb
    replace b2 := b2.below hb
    replace H0 := H0.trans (hb.mono H0.size)
    clear hb
    go_wp2_with fail
    refine hK.out _ _ ⟨b0.cell 0 _ rfl, b0.cell 1 _ rfl, b0.cell 2 _ rfl, b0.cell 3 _ rfl, b0.cell 4 _ rfl, b0.cell 5 _ rfl, b1.cell 0 _ rfl, b1.cell 1 _ rfl, b1.cell 2 _ rfl, b1.cell 3 _ rfl, b1.cell 4 _ rfl, b1.cell 5 _ rfl, b2.cell 0 _ rfl, b2.cell 1 _ rfl, b2.cell 2 _ rfl, b2.cell 3 _ rfl, b2.cell 4 _ rfl, b2.cell 5 _ rfl⟩ (fun hHeld => ?_)
    clear hK K
    (try simp only [List.getElem_toArray, List.getElem_cons_succ, List.getElem_cons_zero, Act.put, List.setIfInBounds_toArray, List.set_cons_zero, List.set_cons_succ])
    refine wpAnyH_ready (rs := [5]) (by kernel_rfl) (by simp) (AllReadyH.cons (o := _) rfl (fun K hK => ?_) AllReadyH.nil)
    go_simp
    go_at_call 39
    refine (pcompare_v j j' k1 k1' (by omega) (by omega) E2.out).mono ?_
    rintro e w3 ⟨rfl, hb⟩
    replace h := h.below hb
    replace h' := h'.below hb
    replace k1 := k1.below hb
    replace k1' := k1'.below hb
    replace j := j.below hb
    replace j' := j'.below hb
    replace b0 := b0.below hb
    replace b1 := b1.below hb
    replace b2 := b2.below hb
    replace H0 := H0.trans (hb.mono H0.size)
    clear hb
    go_wp2_with fail
    refine hK.out _ _ ⟨b0.cell 0 _ rfl, b0.cell 1 _ rfl, b0.cell 2 _ rfl, b0.cell 3 _ rfl, b0.cell 4 _ rfl, b0.cell 5 _ rfl, b1.cell 0 _ rfl, b1.cell 1 _ rfl, b1.cell 2 _ rfl, b1.cell 3 _ rfl, b1.cell 4 _ rfl, b1.cell 5 _ rfl, b2.cell 0 _ rfl, b2.cell 1 _ rfl, b2.cell 2 _ rfl, b2.cell 3 _ rfl, b2.cell 4 _ rfl, b2.cell 5 _ rfl⟩ (fun hHeld => ?_)
    clear hK K
    (try simp only [List.getElem_toArray, List.getElem_cons_succ, List.getElem_cons_zero, Act.put, List.setIfInBounds_toArray, List.set_cons_zero, List.set_cons_succ])
    refine wpAnyH_take (i := 6) (v := ?_) rfl (by kernel_rfl) (by kernel_rfl) (by kernel_rfl) (fun _ _ _ h => h) (Or.inl ⟨by rfl, ?_⟩) (by assumption) ?_
    rotate_left
    · (intro w hSw; (try dsimp only at hSw); go_simp; (try with_reducible rfl))
    (try simp only [List.getElem_toArray, List.getElem_cons_succ, List.getElem_cons_zero, Act.put, List.setIfInBounds_toArray, List.set_cons_zero, List.set_cons_succ])
    refine wpAnyH_take (i := 7) (v := ?_) rfl (by kernel_rfl) (by kernel_rfl) (by kernel_rfl) (fun _ _ _ h => h) (Or.inl ⟨by rfl, ?_⟩) (by assumption) ?_
    rotate_left
    · (intro w hSw; (try dsimp only at hSw); go_simp; (try with_reducible rfl))
    (try simp only [List.getElem_toArray, List.getElem_cons_succ, List.getElem_cons_zero, Act.put, List.setIfInBounds_toArray, List.set_cons_zero, List.set_cons_succ])
    refine wpAnyH_take (i := 8) (v := ?_) rfl (by kernel_rfl) (by kernel_rfl) (by kernel_rfl) (fun _ _ _ h => h) (Or.inl ⟨by rfl, ?_⟩) (by assumption) ?_
    rotate_left
    · (intro w hSw; (try dsimp only at hSw); go_simp; (try with_reducible rfl))
    (try simp only [List.getElem_toArray, List.getElem_cons_succ, List.getElem_cons_zero, Act.put, List.setIfInBounds_toArray, List.set_cons_zero, List.set_cons_succ])
    refine wpAnyH_take (i := 9) (v := ?_) rfl (by kernel_rfl) (by kernel_rfl) (by kernel_rfl) (fun _ _ _ h => h) (Or.inl ⟨by rfl, ?_⟩) (by assumption) ?_
    rotate_left
    · (intro w hSw; (try dsimp only at hSw); go_simp; (try with_reducible rfl))
    (try simp only [List.getElem_toArray, List.getElem_cons_succ, List.getElem_cons_zero, Act.put, List.setIfInBounds_toArray, List.set_cons_zero, List.set_cons_succ])
    refine wpAnyH_take (i := 10) (v := ?_) rfl (by kernel_rfl) (by kernel_rfl) (by kernel_rfl) (fun _ _ _ h => h) (Or.inl ⟨by rfl, ?_⟩) (by assumption) ?_
    rotate_left
    · (intro w hSw; (try dsimp only at hSw); go_simp; (try with_reducible rfl))
    (try simp only [List.getElem_toArray, List.getElem_cons_succ, List.getElem_cons_zero, Act.put, List.setIfInBounds_toArray, List.set_cons_zero, List.set_cons_succ])
    refine wpAnyH_take (i := 11) (v := ?_) rfl (by kernel_rfl) (by kernel_rfl) (by kernel_rfl) (fun _ _ _ h => h) (Or.inl ⟨by rfl, ?_⟩) (by assumption) ?_
    rotate_left
    · (intro w hSw; (try dsimp only at hSw); go_simp; (try with_reducible rfl))
    (try simp only [List.getElem_toArray, List.getElem_cons_succ, List.getElem_cons_zero, Act.put, List.setIfInBounds_toArray, List.set_cons_zero, List.set_cons_succ])
    refine wpAnyH_ready (rs := [12]) (by kernel_rfl) (by simp) (AllReadyH.cons (o := _) rfl (fun K hK => ?_) AllReadyH.nil)
    go_simp
    rw [if_pos (by decide)]
    go_at_call 34
    refine (porient_v h h' k1 k1' j j' (by omega) (by omega) (by omega) HO.out).mono ?_
    rintro e w4 ⟨rfl, hb⟩
    replace h := h.below hb
    replace h' := h'.below hb
    replace k1 := k1.below hb
    replace k1' := k1'.below hb
    replace j := j.below hb
    replace j' := j'.below hb
    replace b0 := b0.below hb
    replace b1 := b1.below hb
    replace b2 := b2.below hb
    replace H0 := H0.trans (hb.mono H0.size)
    clear hb
    go_wp2_with fail
    refine hK.out _ _ ⟨b0.cell 0 _ rfl, b0.cell 1 _ rfl, b0.cell 2 _ rfl, b0.cell 3 _ rfl, b0.cell 4 _ rfl, b0.cell 5 _ rfl, b1.cell 0 _ rfl, b1.cell 1 _ rfl, b1.cell 2 _ rfl, b1.cell 3 _ rfl, b1.cell 4 _ rfl, b1.cell 5 _ rfl, b2.cell 0 _ rfl, b2.cell 1 _ rfl, b2.cell 2 _ rfl, b2.cell 3 _ rfl, b2.cell 4 _ rfl, b2.cell 5 _ rfl⟩ (fun hHeld => ?_)
    clear hK K
    (try simp only [List.getElem_toArray, List.getElem_cons_succ, List.getElem_cons_zero, Act.put, List.setIfInBounds_toArray, List.set_cons_zero, List.set_cons_succ])
    refine wpAnyH_take (i := 13) (v := ?_) rfl (by kernel_rfl) (by kernel_rfl) (by kernel_rfl) (fun _ _ _ h => h) (Or.inl ⟨by rfl, ?_⟩) (by assumption) ?_
    rotate_left
    · (intro w hSw; (try dsimp only at hSw); go_simp; (try with_reducible rfl))
    (try simp only [List.getElem_toArray, List.getElem_cons_succ, List.getElem_cons_zero, Act.put, List.setIfInBounds_toArray, List.set_cons_zero, List.set_cons_succ])
    refine wpAnyH_take (i := 14) (v := ?_) rfl (by kernel_rfl) (by kernel_rfl) (by kernel_rfl) (fun _ _ _ h => h) (Or.inl ⟨by rfl, ?_⟩) (by assumption) ?_
    rotate_left
    · (intro w hSw; (try dsimp only at hSw); go_simp; (try with_reducible rfl))
    (try simp only [List.getElem_toArray, List.getElem_cons_succ, List.getElem_cons_zero, Act.put, List.setIfInBounds_toArray, List.set_cons_zero, List.set_cons_succ])
    refine wpAnyH_take (i := 15) (v := ?_) rfl (by kernel_rfl) (by kernel_rfl) (by kernel_rfl) (fun _ _ _ h => h) (Or.inl ⟨by rfl, ?_⟩) (by assumption) ?_
    rotate_left
    · (intro w hSw; (try dsimp only at hSw); go_simp; (try with_reducible rfl))
    (try simp only [List.getElem_toArray, List.getElem_cons_succ, List.getElem_cons_zero, Act.put, List.setIfInBounds_toArray, List.set_cons_zero, List.set_cons_succ])
    refine wpAnyH_done (by kernel_rfl) ?_ _
    refine NoPanic.normal ?_
    go_wp2_with fail
    go_returns
    exact ⟨rfl, H0⟩
  · have hb2 : b = ((ko : Int) == 0) := by rw [← hb]; rfl
    subst hb2
    clear hb
    go_enter Tryz.func43, Tryz.ntmps43
    go_wp2_with fail
    obtain ⟨W0, hW, b0, b1, b2, hbW, hszW0⟩ := boxes3 w #[.bool s0, .slice A0 n0 c0, .slice D0 m0 e0, .bool s1, .slice A1 n1 c1, .slice D1 m1 e1] #[.bool s2, .slice A2 n2 c2, .slice D2 m2 e2, .bool s3, .slice A3 n3 c3, .slice D3 m3 e3] #[.bool s4, .slice A4 n4 c4, .slice D4 m4 e4, .bool s5, .slice A5 n5 c5, .slice D5 m5 e5] 29 29 29
    rw [hW]
    clear hW
    replace h := h.below hbW
    replace h' := h'.below hbW
    replace k1 := k1.below hbW
    replace k1' := k1'.below hbW
    replace j := j.below hbW
    replace j' := j'.below hbW
    have H0 := hbW
    clear hbW
    have hD := drawn_below W0
    replace h := h.below hD
    replace h' := h'.below hD
    replace k1 := k1.below hD
    replace k1' := k1'.below hD
    replace j := j.below hD
    replace j' := j'.below hD
    replace b0 := b0.below hD
    replace b1 := b1.below hD
    replace b2 := b2.below hD
    replace H0 := H0.trans (hD.mono H0.size)
    clear hD
    refine wp_region_noPanic ?_
    refine wp_region_held_drew (S := (fun V => V.cell? ⟨w.heap.size, 0, none⟩ = some (.bool s0) ∧ V.cell? ⟨w.heap.size, 1, none⟩ = some (.slice A0 n0 c0) ∧ V.cell? ⟨w.heap.size, 2, none⟩ = some (.slice D0 m0 e0) ∧ V.cell? ⟨w.heap.size, 3, none⟩ = some (.bool s1) ∧ V.cell? ⟨w.heap.size, 4, none⟩ = some (.slice A1 n1 c1) ∧ V.cell? ⟨w.heap.size, 5, none⟩ = some (.slice D1 m1 e1) ∧ V.cell? ⟨w.heap.size + 1, 0, none⟩ = some (.bool s2) ∧ V.cell? ⟨w.heap.size + 1, 1, none⟩ = some (.slice A2 n2 c2) ∧ V.cell? ⟨w.heap.size + 1, 2, none⟩ = some (.slice D2 m2 e2) ∧ V.cell? ⟨w.heap.size + 1, 3, none⟩ = some (.bool s3) ∧ V.cell? ⟨w.heap.size + 1, 4, none⟩ = some (.slice A3 n3 c3) ∧ V.cell? ⟨w.heap.size + 1, 5, none⟩ = some (.slice D3 m3 e3) ∧ V.cell? ⟨w.heap.size + 1 + 1, 0, none⟩ = some (.bool s4) ∧ V.cell? ⟨w.heap.size + 1 + 1, 1, none⟩ = some (.slice A4 n4 c4) ∧ V.cell? ⟨w.heap.size + 1 + 1, 2, none⟩ = some (.slice D4 m4 e4) ∧ V.cell? ⟨w.heap.size + 1 + 1, 3, none⟩ = some (.bool s5) ∧ V.cell? ⟨w.heap.size + 1 + 1, 4, none⟩ = some (.slice A5 n5 c5) ∧ V.cell? ⟨w.heap.size + 1 + 1, 5, none⟩ = some (.slice D5 m5 e5))) (by kernel_rfl) ⟨b0.cell 0 _ rfl, b0.cell 1 _ rfl, b0.cell 2 _ rfl, b0.cell 3 _ rfl, b0.cell 4 _ rfl, b0.cell 5 _ rfl, b1.cell 0 _ rfl, b1.cell 1 _ rfl, b1.cell 2 _ rfl, b1.cell 3 _ rfl, b1.cell 4 _ rfl, b1.cell 5 _ rfl, b2.cell 0 _ rfl, b2.cell 1 _ rfl, b2.cell 2 _ rfl, b2.cell 3 _ rfl, b2.cell 4 _ rfl, b2.cell 5 _ rfl⟩ (fun hHeld => ?_)
    generalize W0.drew = v1 at H0 hHeld h h' k1 k1' j j' b0 b1 b2 ⊢
    refine wpAnyH_take (i := 0) (v := ?_) rfl (by kernel_rfl) (by kernel_rfl) (by kernel_rfl) (fun _ _ _ h => h) (Or.inl ⟨by rfl, ?_⟩) (by assumption) ?_
    rotate_left
    · (intro w hSw; (try dsimp only at hSw); go_simp; (try with_reducible rfl))
    (try simp only [List.getElem_toArray, List.getElem_cons_zero, Act.put, List.setIfInBounds_toArray, List.set_cons_zero, List.set_cons_succ])
    refine wpAnyH_take (i := 1) (v := ?_) rfl (by kernel_rfl) (by kernel_rfl) (by kernel_rfl) (fun _ _ _ h => h) (Or.inl ⟨by rfl, ?_⟩) (by assumption) ?_
    rotate_left
    · (intro w hSw; (try dsimp only at hSw); go_simp; (try with_reducible rfl))
    (try simp only [List.getElem_toArray, List.getElem_cons_succ, List.getElem_cons_zero, Act.put, List.setIfInBounds_toArray, List.set_cons_zero, List.set_cons_succ])
    refine wpAnyH_take (i := 3) (v := ?_) rfl (by kernel_rfl) (by kernel_rfl) (by kernel_rfl) (fun _ _ _ h => h) (Or.inl ⟨by rfl, ?_⟩) (by assumption) ?_
    rotate_left
    · (intro w hSw; (try dsimp only at hSw); go_simp; (try with_reducible rfl))
    (try simp only [List.getElem_toArray, List.getElem_cons_succ, List.getElem_cons_zero, Act.put, List.setIfInBounds_toArray, List.set_cons_zero, List.set_cons_succ])
    refine wpAnyH_take (i := 4) (v := ?_) rfl (by kernel_rfl) (by kernel_rfl) (by kernel_rfl) (fun _ _ _ h => h) (Or.inl ⟨by rfl, ?_⟩) (by assumption) ?_
    rotate_left
    · (intro w hSw; (try dsimp only at hSw); go_simp; (try with_reducible rfl))
    (try simp only [List.getElem_toArray, List.getElem_cons_succ, List.getElem_cons_zero, Act.put, List.setIfInBounds_toArray, List.set_cons_zero, List.set_cons_succ])
    refine wpAnyH_ready (rs := [2]) (by kernel_rfl) (by simp) (AllReadyH.cons (o := _) rfl (fun K hK => ?_) AllReadyH.nil)
    go_simp
    go_at_call 39
    refine (pcompare_v h h' j j' (by omega) (by omega) E1.out).mono ?_
    rintro e w2 ⟨rfl, hb⟩
    replace h := h.below hb
    replace h' := h'.below hb
    replace k1 := k1.below hb
    replace k1' := k1'.below hb
    replace j := j.below hb
    replace j' := j'.below hb
    replace b0 := b0.below hb
    replace b1 := b1.below hb
    replace b2 := b2.below hb
    replace H0 := H0.trans (hb.mono H0.size)
    clear hb
    go_wp2_with fail
    refine hK.out _ _ ⟨b0.cell 0 _ rfl, b0.cell 1 _ rfl, b0.cell 2 _ rfl, b0.cell 3 _ rfl, b0.cell 4 _ rfl, b0.cell 5 _ rfl, b1.cell 0 _ rfl, b1.cell 1 _ rfl, b1.cell 2 _ rfl, b1.cell 3 _ rfl, b1.cell 4 _ rfl, b1.cell 5 _ rfl, b2.cell 0 _ rfl, b2.cell 1 _ rfl, b2.cell 2 _ rfl, b2.cell 3 _ rfl, b2.cell 4 _ rfl, b2.cell 5 _ rfl⟩ (fun hHeld => ?_)
    clear hK K
    (try simp only [List.getElem_toArray, List.getElem_cons_succ, List.getElem_cons_zero, Act.put, List.setIfInBounds_toArray, List.set_cons_zero, List.set_cons_succ])
    refine wpAnyH_ready (rs := [5]) (by kernel_rfl) (by simp) (AllReadyH.cons (o := _) rfl (fun K hK => ?_) AllReadyH.nil)
    go_simp
    go_at_call 39
    refine (pcompare_v j j' k1 k1' (by omega) (by omega) E2.out).mono ?_
    rintro e w3 ⟨rfl, hb⟩
    replace h := h.below hb
    replace h' := h'.below hb
    replace k1 := k1.below hb
    replace k1' := k1'.below hb
    replace j := j.below hb
    replace j' := j'.below hb
    replace b0 := b0.below hb
    replace b1 := b1.below hb
    replace b2 := b2.below hb
    replace H0 := H0.trans (hb.mono H0.size)
    clear hb
    go_wp2_with fail
    refine hK.out _ _ ⟨b0.cell 0 _ rfl, b0.cell 1 _ rfl, b0.cell 2 _ rfl, b0.cell 3 _ rfl, b0.cell 4 _ rfl, b0.cell 5 _ rfl, b1.cell 0 _ rfl, b1.cell 1 _ rfl, b1.cell 2 _ rfl, b1.cell 3 _ rfl, b1.cell 4 _ rfl, b1.cell 5 _ rfl, b2.cell 0 _ rfl, b2.cell 1 _ rfl, b2.cell 2 _ rfl, b2.cell 3 _ rfl, b2.cell 4 _ rfl, b2.cell 5 _ rfl⟩ (fun hHeld => ?_)
    clear hK K
    (try simp only [List.getElem_toArray, List.getElem_cons_succ, List.getElem_cons_zero, Act.put, List.setIfInBounds_toArray, List.set_cons_zero, List.set_cons_succ])
    refine wpAnyH_take (i := 6) (v := ?_) rfl (by kernel_rfl) (by kernel_rfl) (by kernel_rfl) (fun _ _ _ h => h) (Or.inl ⟨by rfl, ?_⟩) (by assumption) ?_
    rotate_left
    · (intro w hSw; (try dsimp only at hSw); go_simp; (try with_reducible rfl))
    (try simp only [List.getElem_toArray, List.getElem_cons_succ, List.getElem_cons_zero, Act.put, List.setIfInBounds_toArray, List.set_cons_zero, List.set_cons_succ])
    refine wpAnyH_take (i := 7) (v := ?_) rfl (by kernel_rfl) (by kernel_rfl) (by kernel_rfl) (fun _ _ _ h => h) (Or.inl ⟨by rfl, ?_⟩) (by assumption) ?_
    rotate_left
    · (intro w hSw; (try dsimp only at hSw); go_simp; (try with_reducible rfl))
    (try simp only [List.getElem_toArray, List.getElem_cons_succ, List.getElem_cons_zero, Act.put, List.setIfInBounds_toArray, List.set_cons_zero, List.set_cons_succ])
    refine wpAnyH_take (i := 8) (v := ?_) rfl (by kernel_rfl) (by kernel_rfl) (by kernel_rfl) (fun _ _ _ h => h) (Or.inl ⟨by rfl, ?_⟩) (by assumption) ?_
    rotate_left
    · (intro w hSw; (try dsimp only at hSw); go_simp; (try with_reducible rfl))
    (try simp only [List.getElem_toArray, List.getElem_cons_succ, List.getElem_cons_zero, Act.put, List.setIfInBounds_toArray, List.set_cons_zero, List.set_cons_succ])
    refine wpAnyH_take (i := 9) (v := ?_) rfl (by kernel_rfl) (by kernel_rfl) (by kernel_rfl) (fun _ _ _ h => h) (Or.inl ⟨by rfl, ?_⟩) (by assumption) ?_
    rotate_left
    · (intro w hSw; (try dsimp only at hSw); go_simp; (try with_reducible rfl))
    (try simp only [List.getElem_toArray, List.getElem_cons_succ, List.getElem_cons_zero, Act.put, List.setIfInBounds_toArray, List.set_cons_zero, List.set_cons_succ])
    refine wpAnyH_take (i := 10) (v := ?_) rfl (by kernel_rfl) (by kernel_rfl) (by kernel_rfl) (fun _ _ _ h => h) (Or.inl ⟨by rfl, ?_⟩) (by assumption) ?_
    rotate_left
    · (intro w hSw; (try dsimp only at hSw); go_simp; (try with_reducible rfl))
    (try simp only [List.getElem_toArray, List.getElem_cons_succ, List.getElem_cons_zero, Act.put, List.setIfInBounds_toArray, List.set_cons_zero, List.set_cons_succ])
    refine wpAnyH_take (i := 11) (v := ?_) rfl (by kernel_rfl) (by kernel_rfl) (by kernel_rfl) (fun _ _ _ h => h) (Or.inl ⟨by rfl, ?_⟩) (by assumption) ?_
    rotate_left
    · (intro w hSw; (try dsimp only at hSw); go_simp; (try with_reducible rfl))
    (try simp only [List.getElem_toArray, List.getElem_cons_succ, List.getElem_cons_zero, Act.put, List.setIfInBounds_toArray, List.set_cons_zero, List.set_cons_succ])
    refine wpAnyH_ready (rs := [12]) (by kernel_rfl) (by simp) (AllReadyH.cons (o := _) rfl (fun K hK => ?_) AllReadyH.nil)
    go_simp
    rw [if_pos (by decide)]
    go_at_call 34
    refine (porient_v h h' k1 k1' j j' (by omega) (by omega) (by omega) HO.out).mono ?_
    rintro e w4 ⟨rfl, hb⟩
    replace h := h.below hb
    replace h' := h'.below hb
    replace k1 := k1.below hb
    replace k1' := k1'.below hb
    replace j := j.below hb
    replace j' := j'.below hb
    replace b0 := b0.below hb
    replace b1 := b1.below hb
    replace b2 := b2.below hb
    replace H0 := H0.trans (hb.mono H0.size)
    clear hb
    go_wp2_with fail
    refine hK.out _ _ ⟨b0.cell 0 _ rfl, b0.cell 1 _ rfl, b0.cell 2 _ rfl, b0.cell 3 _ rfl, b0.cell 4 _ rfl, b0.cell 5 _ rfl, b1.cell 0 _ rfl, b1.cell 1 _ rfl, b1.cell 2 _ rfl, b1.cell 3 _ rfl, b1.cell 4 _ rfl, b1.cell 5 _ rfl, b2.cell 0 _ rfl, b2.cell 1 _ rfl, b2.cell 2 _ rfl, b2.cell 3 _ rfl, b2.cell 4 _ rfl, b2.cell 5 _ rfl⟩ (fun hHeld => ?_)
    clear hK K
    (try simp only [List.getElem_toArray, List.getElem_cons_succ, List.getElem_cons_zero, Act.put, List.setIfInBounds_toArray, List.set_cons_zero, List.set_cons_succ])
    refine wpAnyH_take (i := 13) (v := ?_) rfl (by kernel_rfl) (by kernel_rfl) (by kernel_rfl) (fun _ _ _ h => h) (Or.inl ⟨by rfl, ?_⟩) (by assumption) ?_
    rotate_left
    · (intro w hSw; (try dsimp only at hSw); go_simp; (try with_reducible rfl))
    (try simp only [List.getElem_toArray, List.getElem_cons_succ, List.getElem_cons_zero, Act.put, List.setIfInBounds_toArray, List.set_cons_zero, List.set_cons_succ])
    refine wpAnyH_take (i := 14) (v := ?_) rfl (by kernel_rfl) (by kernel_rfl) (by kernel_rfl) (fun _ _ _ h => h) (Or.inl ⟨by rfl, ?_⟩) (by assumption) ?_
    rotate_left
    · (intro w hSw; (try dsimp only at hSw); go_simp; (try with_reducible rfl))
    (try simp only [List.getElem_toArray, List.getElem_cons_succ, List.getElem_cons_zero, Act.put, List.setIfInBounds_toArray, List.set_cons_zero, List.set_cons_succ])
    refine wpAnyH_take (i := 15) (v := ?_) rfl (by kernel_rfl) (by kernel_rfl) (by kernel_rfl) (fun _ _ _ h => h) (Or.inl ⟨by rfl, ?_⟩) (by assumption) ?_
    rotate_left
    · (intro w hSw; (try dsimp only at hSw); go_simp; (try with_reducible rfl))
    (try simp only [List.getElem_toArray, List.getElem_cons_succ, List.getElem_cons_zero, Act.put, List.setIfInBounds_toArray, List.set_cons_zero, List.set_cons_succ])
    refine wpAnyH_done (by kernel_rfl) ?_ _
    refine NoPanic.normal ?_
    go_wp2_with fail
    go_returns
    exact ⟨rfl, H0⟩
end
end Go.Proofs.YtlpgbflajcfgpaaGreatDoor
