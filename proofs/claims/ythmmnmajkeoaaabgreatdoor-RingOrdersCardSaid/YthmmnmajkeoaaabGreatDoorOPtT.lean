/-
  Points from the tape.
-/
import Derived.Test.YthmmnmajkeoaaabGreatDoorOPtG
import Derived.Test.YthmmnmajkeoaaabGreatDoorORatT
namespace Go.Proofs.YthmmnmajkeoaaabGreatDoor
open Go.RowKit

section
variable {A0 A1 A2 A3 A4 A5 A6 A7 D0 D1 D2 D3 D4 D5 D6 D7 : Option Addr} {n0 n1 n2 n3 n4 n5 n6 n7 c0 c1 c2 c3 c4 c5 c6 c7 m0 m1 m2 m3 m4 m5 m6 m7 e0 e1 e2 e3 e4 e5 e6 e7 : Nat} {s0 s1 s2 s3 s4 s5 s6 s7 : Bool} {q0 q1 q2 q3 q4 q5 q6 q7 : Rat} {z z' z0 z1 : Int} {L L0 L1 x x0 x1 y : Nat} {k : Int} {b : Bool} {w : World}
theorem wrap4 {r : Nat} (hr : r < 9) : IntKind.i64.wrap ((r : Int) - 4) = (r : Int) - 4 := by simp [IntKind.wrap, IntKind.bits, IntKind.signed]; omega
set_option maxRecDepth 100000 in
set_option maxHeartbeats 4000000 in
theorem tp_v {b : Nat} (hT : Tape w b) (hb : b < w.heap.size) :
    Calls Tryz.prog 15 #[.pointer (some ⟨b, 0, none⟩)] w fun e w' => ∃ x y : Int, ∃ s2 A2 n2 c2 D2 m2 e2 s3 A3 n3 c3 D3 m3 e3, e = .returned (.agg #[.bool s2, .slice A2 n2 c2, .slice D2 m2 e2, .bool s3, .slice A3 n3 c3, .slice D3 m3 e3]) ∧ SV x y ∧ PQ w' s2 (.slice A2 n2 c2) (.slice D2 m2 e2) (x : Rat) 2 ∧ PQ w' s3 (.slice A3 n3 c3) (.slice D3 m3 e3) (y : Rat) 2 ∧ Tape w' b ∧ w.grownBy w' (some b) := by
  go_enter Tryz.func15, Tryz.ntmps15
  go_wp2_with fail
  have G0 : w.grownBy w (some b) := ⟨rfl, rfl, rfl, Nat.le_refl _, fun _ _ _ => rfl⟩
  have hlt := hb
  obtain ⟨W0, hW, b0, hbW, hszW0⟩ := boxes1 w #[.bool false, .slice none 0 0, .slice none 0 0, .bool false, .slice none 0 0, .slice none 0 0] 51
  rw [hW]
  clear hW
  replace hT := hT.keep hbW hlt
  replace hlt := Nat.lt_of_lt_of_le hlt hbW.size
  replace G0 := only_below G0 hbW G0.size
  clear hbW
  refine (next_any 9 (by omega) (by omega) hT).mono ?_
  rintro e w1 ⟨r, rfl, hr, hT', hg⟩
  replace b0 := b0.other hg (by omega)
  replace hlt := Nat.lt_of_lt_of_le hlt hg.size
  replace G0 := only_trans G0 hg
  clear hT
  have hT := hT'
  clear hT' hg
  have wr := wrap4 hr
  go_wp2_with fail
  refine (next_any 9 (by omega) (by omega) hT).mono ?_
  rintro e w2 ⟨r1, rfl, hr1, hT', hg⟩
  replace b0 := b0.other hg (by omega)
  replace hlt := Nat.lt_of_lt_of_le hlt hg.size
  replace G0 := only_trans G0 hg
  clear hT
  have hT := hT'
  clear hT' hg
  have wr1 := wrap4 hr1
  go_wp2_with fail
  refine (gxy_v ((r : Int) - 4) ((r1 : Int) - 4) (by omega) (by omega) (by omega) (by omega) _).mono ?_
  rintro e w3 ⟨s2, A2, n2, c2, D2, m2, e2, s3, A3, n3, c3, D3, m3, e3, rfl, g2, g3, hb⟩
  replace b0 := b0.below hb
  replace hT := hT.keep hb hlt
  replace hlt := Nat.lt_of_lt_of_le hlt hb.size
  replace G0 := only_below G0 hb G0.size
  clear hb
  have cb00 := b0.cell 0 _ rfl
  have yb00 := b0.frozen 0
  have cb01 := b0.cell 1 _ rfl
  have yb01 := b0.frozen 1
  have cb02 := b0.cell 2 _ rfl
  have yb02 := b0.frozen 2
  have cb03 := b0.cell 3 _ rfl
  have yb03 := b0.frozen 3
  have cb04 := b0.cell 4 _ rfl
  have yb04 := b0.frozen 4
  have cb05 := b0.cell 5 _ rfl
  have yb05 := b0.frozen 5
  go_wp2_with fail
  clear cb00 yb00 cb01 yb01 cb02 yb02 cb03 yb03 cb04 yb04 cb05 yb05
  have hg := only_store6 w3 (w.heap.size) (.bool s2) (.slice A2 n2 c2) (.slice D2 m2 e2) (.bool s3) (.slice A3 n3 c3) (.slice D3 m3 e3)
  have hB := b0.stored6 (.bool s2) (.slice A2 n2 c2) (.slice D2 m2 e2) (.bool s3) (.slice A3 n3 c3) (.slice D3 m3 e3)
  generalize hX : ((((((w3.setCell ⟨w.heap.size, 0, none⟩ (.bool s2)).setCell ⟨w.heap.size, 1, none⟩ (.slice A2 n2 c2)).setCell ⟨w.heap.size, 2, none⟩ (.slice D2 m2 e2)).setCell ⟨w.heap.size, 3, none⟩ (.bool s3)).setCell ⟨w.heap.size, 4, none⟩ (.slice A3 n3 c3)).setCell ⟨w.heap.size, 5, none⟩ (.slice D3 m3 e3)) = X4 at hg hB ⊢
  clear hX
  replace g2 := g2.kept b0 (by simp [notInt]) hg
  replace g3 := g3.kept b0 (by simp [notInt]) hg
  replace b0 := hB
  have hBs := below_only (Below.refl w.heap.size w3) hg (by omega) G0.size
  replace hT := hT.keep hBs hb
  replace G0 := only_below G0 hBs (Nat.le_refl _)
  replace hlt := Nat.lt_of_lt_of_le hlt hg.size
  clear hg hB hBs
  refine bodyPost_ret (ret_geop rfl rfl b0) rfl ?_
  exact ⟨_, _, s2, A2, n2, c2, D2, m2, e2, s3, A3, n3, c3, D3, m3, e3, rfl, ⟨by omega, by omega, by omega, by omega⟩, g2, g3, hT, G0⟩
theorem cmpq_z : cmpQ ((0 : Int) : Rat) ((0 : Int) : Rat) 0 0 = 0 := by
  unfold cmpQ; rw [show ((0 : Int) : Rat) = 0 from rfl, Rat.sub_self, rsg_zero]; rfl
set_option maxRecDepth 100000 in
set_option maxHeartbeats 4000000 in
theorem tv_v {b : Nat} (hT : Tape w b) (hb : b < w.heap.size) :
    Calls Tryz.prog 16 #[.pointer (some ⟨b, 0, none⟩)] w fun e w' => ∃ x y : Int, ∃ s2 A2 n2 c2 D2 m2 e2 s3 A3 n3 c3 D3 m3 e3, e = .returned (.agg #[.bool s2, .slice A2 n2 c2, .slice D2 m2 e2, .bool s3, .slice A3 n3 c3, .slice D3 m3 e3]) ∧ SV x y ∧ ¬ (x = 0 ∧ y = 0) ∧ PQ w' s2 (.slice A2 n2 c2) (.slice D2 m2 e2) (x : Rat) 2 ∧ PQ w' s3 (.slice A3 n3 c3) (.slice D3 m3 e3) (y : Rat) 2 ∧ Tape w' b ∧ w.grownBy w' (some b) := by
  go_enter Tryz.func16, Tryz.ntmps16
  go_wp2_with fail
  have G0 : w.grownBy w (some b) := ⟨rfl, rfl, rfl, Nat.le_refl _, fun _ _ _ => rfl⟩
  have hlt := hb
  obtain ⟨W0, hW, b0, hbW, hszW0⟩ := boxes1 w #[.bool false, .slice none 0 0, .slice none 0 0, .bool false, .slice none 0 0, .slice none 0 0] 51
  rw [hW]
  clear hW
  replace hT := hT.keep hbW hlt
  replace hlt := Nat.lt_of_lt_of_le hlt hbW.size
  replace G0 := only_below G0 hbW G0.size
  clear hbW
  refine (tp_v hT hlt).mono ?_
  rintro e w1 ⟨x, y, s2, A2, n2, c2, D2, m2, e2, s3, A3, n3, c3, D3, m3, e3, rfl, hv, g2, g3, hT', hg⟩
  replace b0 := b0.other hg (by omega)
  replace hlt := Nat.lt_of_lt_of_le hlt hg.size
  replace G0 := only_trans G0 hg
  clear hT
  have hT := hT'
  clear hT' hg
  have lb0_2 := b0.lt
  obtain ⟨W2, hW, b1, hbW, hszW2⟩ := boxes1 w1 #[.bool s2, .slice A2 n2 c2, .slice D2 m2 e2, .bool s3, .slice A3 n3 c3, .slice D3 m3 e3] 51
  skip
  skip
  replace g2 := g2.below hbW
  replace g3 := g3.below hbW
  replace b0 := b0.below hbW
  replace hT := hT.keep hbW hlt
  replace hlt := Nat.lt_of_lt_of_le hlt hbW.size
  replace G0 := only_below G0 hbW G0.size
  clear hbW
  have cb10 := b1.cell 0 _ rfl
  have cb11 := b1.cell 1 _ rfl
  have cb12 := b1.cell 2 _ rfl
  have cb13 := b1.cell 3 _ rfl
  have cb14 := b1.cell 4 _ rfl
  have cb15 := b1.cell 5 _ rfl
  go_wp2_with fail
  clear hW
  obtain ⟨kz, hkz⟩ : ∃ a, cmpQ (x : Rat) (y : Rat) 0 0 = a := ⟨_, rfl⟩
  have HK := Lib.hid hkz
  clear hkz
  clear cb10 cb11 cb12 cb13 cb14 cb15
  refine (gsame_v g2 g3 (PQ.zero (L := 1) _) (PQ.zero _) (by omega) (by omega) HK.out).mono ?_
  rintro e w3 ⟨rfl, hb⟩
  replace g2 := g2.below hb
  replace g3 := g3.below hb
  replace b0 := b0.below hb
  replace b1 := b1.below hb
  replace hT := hT.keep hb hlt
  replace hlt := Nat.lt_of_lt_of_le hlt hb.size
  replace G0 := only_below G0 hb G0.size
  clear hb
  rcases Decidable.em (kz = 0) with h1 | h1
  · skip
    subst h1
    clear g2
    clear g3
    have cb10 := b1.cell 0 _ rfl
    have cb11 := b1.cell 1 _ rfl
    have cb12 := b1.cell 2 _ rfl
    have cb13 := b1.cell 3 _ rfl
    have cb14 := b1.cell 4 _ rfl
    have cb15 := b1.cell 5 _ rfl
    go_wp2_with fail
    clear cb10 cb11 cb12 cb13 cb14 cb15
    refine (gxy_v 1 0 (by decide) (by decide) (by decide) (by decide) _).mono ?_
    rintro e w4 ⟨s4, A4, n4, c4, D4, m4, e4, s5, A5, n5, c5, D5, m5, e5, rfl, g4, g5, hb⟩
    replace b0 := b0.below hb
    replace b1 := b1.below hb
    replace hT := hT.keep hb hlt
    replace hlt := Nat.lt_of_lt_of_le hlt hb.size
    replace G0 := only_below G0 hb G0.size
    clear hb
    have cb00 := b0.cell 0 _ rfl
    have yb00 := b0.frozen 0
    have cb01 := b0.cell 1 _ rfl
    have yb01 := b0.frozen 1
    have cb02 := b0.cell 2 _ rfl
    have yb02 := b0.frozen 2
    have cb03 := b0.cell 3 _ rfl
    have yb03 := b0.frozen 3
    have cb04 := b0.cell 4 _ rfl
    have yb04 := b0.frozen 4
    have cb05 := b0.cell 5 _ rfl
    have yb05 := b0.frozen 5
    go_wp2_with fail
    clear cb00 yb00 cb01 yb01 cb02 yb02 cb03 yb03 cb04 yb04 cb05 yb05
    have hg := only_store6 w4 (w.heap.size) (.bool s4) (.slice A4 n4 c4) (.slice D4 m4 e4) (.bool s5) (.slice A5 n5 c5) (.slice D5 m5 e5)
    have hB := b0.stored6 (.bool s4) (.slice A4 n4 c4) (.slice D4 m4 e4) (.bool s5) (.slice A5 n5 c5) (.slice D5 m5 e5)
    generalize hX : ((((((w4.setCell ⟨w.heap.size, 0, none⟩ (.bool s4)).setCell ⟨w.heap.size, 1, none⟩ (.slice A4 n4 c4)).setCell ⟨w.heap.size, 2, none⟩ (.slice D4 m4 e4)).setCell ⟨w.heap.size, 3, none⟩ (.bool s5)).setCell ⟨w.heap.size, 4, none⟩ (.slice A5 n5 c5)).setCell ⟨w.heap.size, 5, none⟩ (.slice D5 m5 e5)) = X5 at hg hB ⊢
    clear hX
    replace g4 := g4.kept b0 (by simp [notInt]) hg
    replace g5 := g5.kept b0 (by simp [notInt]) hg
    replace b1 := b1.other hg (by omega)
    replace b0 := hB
    have hBs := below_only (Below.refl w.heap.size w4) hg (by omega) G0.size
    replace hT := hT.keep hBs hb
    replace G0 := only_below G0 hBs (Nat.le_refl _)
    replace hlt := Nat.lt_of_lt_of_le hlt hg.size
    clear hg hB hBs
    refine bodyPost_ret (ret_geop rfl rfl b0) rfl ?_
    exact ⟨1, 0, s4, A4, n4, c4, D4, m4, e4, s5, A5, n5, c5, D5, m5, e5, rfl, ⟨by omega, by omega, by omega, by omega⟩, by omega, g4, g5, hT, G0⟩
  · skip
    have hkf : ((kz : Int) == 0) = false := by rw [beq_eq_false_iff_ne]; exact h1
    have hnz : ¬ (x = 0 ∧ y = 0) := by rintro ⟨rfl, rfl⟩; exact h1 (HK.out.symm.trans cmpq_z)
    have cb10 := b1.cell 0 _ rfl
    have cb11 := b1.cell 1 _ rfl
    have cb12 := b1.cell 2 _ rfl
    have cb13 := b1.cell 3 _ rfl
    have cb14 := b1.cell 4 _ rfl
    have cb15 := b1.cell 5 _ rfl
    have cb00 := b0.cell 0 _ rfl
    have yb00 := b0.frozen 0
    have cb01 := b0.cell 1 _ rfl
    have yb01 := b0.frozen 1
    have cb02 := b0.cell 2 _ rfl
    have yb02 := b0.frozen 2
    have cb03 := b0.cell 3 _ rfl
    have yb03 := b0.frozen 3
    have cb04 := b0.cell 4 _ rfl
    have yb04 := b0.frozen 4
    have cb05 := b0.cell 5 _ rfl
    have yb05 := b0.frozen 5
    go_wp2_with fail
    clear cb10 cb11 cb12 cb13 cb14 cb15 cb00 yb00 cb01 yb01 cb02 yb02 cb03 yb03 cb04 yb04 cb05 yb05
    have hg := only_store6 w3 (w.heap.size) (.bool s2) (.slice A2 n2 c2) (.slice D2 m2 e2) (.bool s3) (.slice A3 n3 c3) (.slice D3 m3 e3)
    have hB := b0.stored6 (.bool s2) (.slice A2 n2 c2) (.slice D2 m2 e2) (.bool s3) (.slice A3 n3 c3) (.slice D3 m3 e3)
    generalize hX : ((((((w3.setCell ⟨w.heap.size, 0, none⟩ (.bool s2)).setCell ⟨w.heap.size, 1, none⟩ (.slice A2 n2 c2)).setCell ⟨w.heap.size, 2, none⟩ (.slice D2 m2 e2)).setCell ⟨w.heap.size, 3, none⟩ (.bool s3)).setCell ⟨w.heap.size, 4, none⟩ (.slice A3 n3 c3)).setCell ⟨w.heap.size, 5, none⟩ (.slice D3 m3 e3)) = X4 at hg hB ⊢
    clear hX
    replace g2 := g2.kept b0 (by simp [notInt]) hg
    replace g3 := g3.kept b0 (by simp [notInt]) hg
    replace b1 := b1.other hg (by omega)
    replace b0 := hB
    have hBs := below_only (Below.refl w.heap.size w3) hg (by omega) G0.size
    replace hT := hT.keep hBs hb
    replace G0 := only_below G0 hBs (Nat.le_refl _)
    replace hlt := Nat.lt_of_lt_of_le hlt hg.size
    clear hg hB hBs
    refine bodyPost_ret (ret_geop rfl rfl b0) rfl ?_
    exact ⟨x, y, s2, A2, n2, c2, D2, m2, e2, s3, A3, n3, c3, D3, m3, e3, rfl, hv, hnz, g2, g3, hT, G0⟩
end
end Go.Proofs.YthmmnmajkeoaaabGreatDoor
