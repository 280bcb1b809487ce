/-
  SmallP of two points; whether the coordinates are in normal form.
-/
import Derived.Test.YthmmnmajkeoaaabGreatDoorOPtG
import Derived.Test.YthmmnmajkeoaaabGreatDoorOSmallQ6
namespace Go.Proofs.YthmmnmajkeoaaabGreatDoor
open Go.RowKit

section
variable {A0 A1 A2 A3 A4 A5 A6 A7 D0 D1 D2 D3 D4 D5 D6 D7 : Option Addr} {n0 n1 n2 n3 n4 n5 n6 n7 c0 c1 c2 c3 c4 c5 c6 c7 m0 m1 m2 m3 m4 m5 m6 m7 e0 e1 e2 e3 e4 e5 e6 e7 : Nat} {s0 s1 s2 s3 s4 s5 s6 s7 : Bool} {q0 q1 q2 q3 q4 q5 q6 q7 : Rat} {z z' z0 z1 : Int} {L L0 L1 x x0 x1 y : Nat} {k : Int} {b : Bool} {w : World}
set_option maxRecDepth 100000 in
set_option maxHeartbeats 4000000 in
theorem pnormal_r {ds0 es0 ds1 es1 : List Nat} (h0 : Raw w (.slice A0 n0 c0) ds0) (h1 : Raw w (.slice D0 m0 e0) es0) (h2 : Raw w (.slice A1 n1 c1) ds1) (h3 : Raw w (.slice D1 m1 e1) es1) (hl0 : ds0.length ≤ 1000000) (hl1 : es0.length ≤ 1000000) (hl2 : ds1.length ≤ 1000000) (hl3 : es1.length ≤ 1000000) :
    Calls Tryz.prog 44 #[.agg #[.bool s0, .slice A0 n0 c0, .slice D0 m0 e0, .bool s1, .slice A1 n1 c1, .slice D1 m1 e1]] w fun e w' => e = .returned (.bool (normQB s0 ds0 es0 && normQB s1 ds1 es1)) ∧ Below w.heap.size w w' := by
  obtain ⟨b1, hb1⟩ : ∃ b, normQB s0 ds0 es0 = b := ⟨_, rfl⟩
  rw [hb1]
  cases b1
  · skip
    go_enter Tryz.func44, Tryz.ntmps44
    go_wp2_with fail
    obtain ⟨W0, hW, b0, hbW, hszW0⟩ := boxes1 w #[.bool s0, .slice A0 n0 c0, .slice D0 m0 e0, .bool s1, .slice A1 n1 c1, .slice D1 m1 e1] 65
    rw [hW]
    clear hW
    replace h0 := h0.below hbW
    replace h1 := h1.below hbW
    replace h2 := h2.below hbW
    replace h3 := h3.below hbW
    have H0 := hbW
    clear hbW
    have cb00 := b0.cell 0 _ rfl
    have cb01 := b0.cell 1 _ rfl
    have cb02 := b0.cell 2 _ rfl
    have cb03 := b0.cell 3 _ rfl
    have cb04 := b0.cell 4 _ rfl
    have cb05 := b0.cell 5 _ rfl
    go_wp2_with fail
    clear cb00 cb01 cb02 cb03 cb04 cb05
    refine (rnormal_r h0 h1 hl0 hl1).mono ?_
    rintro e w1 ⟨rfl, hb⟩
    replace h0 := h0.below hb
    replace h1 := h1.below hb
    replace h2 := h2.below hb
    replace h3 := h3.below hb
    replace b0 := b0.below hb
    replace H0 := H0.trans (hb.mono H0.size)
    clear hb
    rw [hb1]
    have cb00 := b0.cell 0 _ rfl
    have cb01 := b0.cell 1 _ rfl
    have cb02 := b0.cell 2 _ rfl
    have cb03 := b0.cell 3 _ rfl
    have cb04 := b0.cell 4 _ rfl
    have cb05 := b0.cell 5 _ rfl
    go_wp2_with fail
    go_returns
    exact ⟨rfl, H0⟩
  · skip
    go_enter Tryz.func44, Tryz.ntmps44
    go_wp2_with fail
    obtain ⟨W0, hW, b0, hbW, hszW0⟩ := boxes1 w #[.bool s0, .slice A0 n0 c0, .slice D0 m0 e0, .bool s1, .slice A1 n1 c1, .slice D1 m1 e1] 65
    rw [hW]
    clear hW
    replace h0 := h0.below hbW
    replace h1 := h1.below hbW
    replace h2 := h2.below hbW
    replace h3 := h3.below hbW
    have H0 := hbW
    clear hbW
    have cb00 := b0.cell 0 _ rfl
    have cb01 := b0.cell 1 _ rfl
    have cb02 := b0.cell 2 _ rfl
    have cb03 := b0.cell 3 _ rfl
    have cb04 := b0.cell 4 _ rfl
    have cb05 := b0.cell 5 _ rfl
    go_wp2_with fail
    clear cb00 cb01 cb02 cb03 cb04 cb05
    refine (rnormal_r h0 h1 hl0 hl1).mono ?_
    rintro e w1 ⟨rfl, hb⟩
    replace h0 := h0.below hb
    replace h1 := h1.below hb
    replace h2 := h2.below hb
    replace h3 := h3.below hb
    replace b0 := b0.below hb
    replace H0 := H0.trans (hb.mono H0.size)
    clear hb
    rw [hb1]
    have cb00 := b0.cell 0 _ rfl
    have cb01 := b0.cell 1 _ rfl
    have cb02 := b0.cell 2 _ rfl
    have cb03 := b0.cell 3 _ rfl
    have cb04 := b0.cell 4 _ rfl
    have cb05 := b0.cell 5 _ rfl
    go_wp2_with fail
    clear cb00 cb01 cb02 cb03 cb04 cb05
    refine (rnormal_r h2 h3 hl2 hl3).mono ?_
    rintro e w2 ⟨rfl, hb⟩
    replace h0 := h0.below hb
    replace h1 := h1.below hb
    replace h2 := h2.below hb
    replace h3 := h3.below hb
    replace b0 := b0.below hb
    replace H0 := H0.trans (hb.mono H0.size)
    clear hb
    go_wp2_with fail
    go_returns
    exact ⟨rfl, H0⟩
theorem pnormal_b {b : Bool} {ds0 es0 ds1 es1 : List Nat} (h0 : Raw w (.slice A0 n0 c0) ds0) (h1 : Raw w (.slice D0 m0 e0) es0) (h2 : Raw w (.slice A1 n1 c1) ds1) (h3 : Raw w (.slice D1 m1 e1) es1) (hl0 : ds0.length ≤ 1000000) (hl1 : es0.length ≤ 1000000) (hl2 : ds1.length ≤ 1000000) (hl3 : es1.length ≤ 1000000) (hb : (normQB s0 ds0 es0 && normQB s1 ds1 es1) = b) :
    Calls Tryz.prog 44 #[.agg #[.bool s0, .slice A0 n0 c0, .slice D0 m0 e0, .bool s1, .slice A1 n1 c1, .slice D1 m1 e1]] w fun e w' => e = .returned (.bool b) ∧ Below w.heap.size w w' := hb ▸ pnormal_r h0 h1 h2 h3 hl0 hl1 hl2 hl3
end
end Go.Proofs.YthmmnmajkeoaaabGreatDoor
