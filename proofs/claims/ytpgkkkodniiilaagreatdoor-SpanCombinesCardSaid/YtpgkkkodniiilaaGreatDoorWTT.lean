/-
  RatT, PtT in one text.
-/
import Derived.Test.YtpgkkkodniiilaaGreatDoorWSq
import Derived.Test.YtpgkkkodniiilaaGreatDoorWRatS
import Derived.Deep.Cut
namespace Go.Proofs.YtpgkkkodniiilaaGreatDoor
open Go.RowKit
section
variable {A0 A1 A2 A3 D0 D1 D2 D3 : Option Addr} {n0 n1 n2 n3 c0 c1 c2 c3 m0 m1 m2 m3 e0 e1 e2 e3 : Nat} {s0 s1 s2 s3 : Bool} {z z' z0 z1 z2 : Int} {q q' q0 q1 q2 : Rat} {L L0 L1 L2 x x0 x1 y : Nat} {w : World}
theorem NV.tape {w' : World} {v : Value} {x L b : Nat} (h : NV w v x L) (ht : Tape w b) (hg : w.grownBy w' (some b)) : NV w' v x L := h.other ht hg
theorem NI.tape {w' : World} {v : Value} {L b : Nat} (h : NI w s0 v z L) (ht : Tape w b) (hg : w.grownBy w' (some b)) : NI w' s0 v z L := ⟨h.1.tape ht hg, h.2⟩
theorem PQ.tape {w' : World} {v u : Value} {L b : Nat} (h : PQ w s0 v u q L) (ht : Tape w b) (hg : w.grownBy w' (some b)) : PQ w' s0 v u q L := ⟨h.1.tape ht hg, h.2.tape ht hg⟩
end
end Go.Proofs.YtpgkkkodniiilaaGreatDoor
namespace Go.Proofs.YtpgkkkodniiilaaGreatDoor
open Go.RowKit
section
variable {A0 A1 A2 A3 D0 D1 D2 D3 : Option Addr} {n0 n1 n2 n3 c0 c1 c2 c3 m0 m1 m2 m3 e0 e1 e2 e3 : Nat} {s0 s1 s2 s3 : Bool} {q0 q1 q2 q3 q4 q5 q6 q7 : Rat} {z z' z0 z1 : Int} {L L0 L1 x x0 x1 y : Nat} {k : Int} {b : Bool} {w : World}
set_option maxRecDepth 100000 in
set_option maxHeartbeats 4000000 in
theorem npart_v {d : Nat} (z : Int) (h0 : -9223372036854775808 ≤ z) (h1 : z ≤ 9223372036854775807) (hd : d = 2 ∨ d = 3 ∨ d = 4) :
    Calls Tryz.prog 34 #[.int .i64 z, .int .i64 (d : Int)] w fun e w' => ∃ s3 A3 n3 c3 D3 m3 e3, e = .returned (.agg #[.bool s3, .slice A3 n3 c3, .slice D3 m3 e3]) ∧ PQ w' s3 (.slice A3 n3 c3) (.slice D3 m3 e3) (mkRat z d) (2) ∧ Below w.heap.size w w' := by
  rcases hd with rfl | rfl | rfl
  · skip
    go_enter Tryz.func34, Tryz.ntmps34
    go_wp2_with fail
    obtain ⟨W0, hW, b0, hbW, hszW0⟩ := boxes1 w #[.bool false, .slice none 0 0, .slice none 0 0] 37
    rw [hW]
    clear hW
    have H0 := hbW
    clear hbW
    refine (nint_v z h0 h1 _).mono ?_
    rintro e w1 ⟨s1, A1, n1, c1, rfl, g1, hb⟩
    replace b0 := b0.below hb
    replace H0 := H0.trans (hb.mono H0.size)
    clear hb
    go_wp2_with fail
    refine (word_v 2 (by decide) _).mono ?_
    rintro e w2 ⟨A2, n2, c2, rfl, g2, hb⟩
    replace g1 := g1.below hb
    replace b0 := b0.below hb
    replace H0 := H0.trans (hb.mono H0.size)
    clear hb
    go_wp2_with fail
    refine (nfrac_v g1 g2 (by decide) (by decide)).mono ?_
    rintro e w3 ⟨s3, A3, n3, c3, D3, m3, e3, rfl, g3, hb⟩
    replace g1 := g1.below hb
    replace g2 := g2.below hb
    replace b0 := b0.below hb
    replace H0 := H0.trans (hb.mono H0.size)
    clear hb
    clear g1
    clear g2
    obtain ⟨cb00, yb00, cb01, yb01, cb02, yb02⟩ := b0.cf3
    go_wp2_with fail
    clear cb00 yb00 cb01 yb01 cb02 yb02
    have hg := only_store3 w3 (w.heap.size) (.bool s3) (.slice A3 n3 c3) (.slice D3 m3 e3)
    have hB := b0.stored3 (.bool s3) (.slice A3 n3 c3) (.slice D3 m3 e3)
    generalize hX : (((w3.setCell ⟨w.heap.size, 0, none⟩ (.bool s3)).setCell ⟨w.heap.size, 1, none⟩ (.slice A3 n3 c3)).setCell ⟨w.heap.size, 2, none⟩ (.slice D3 m3 e3)) = X4 at hg hB ⊢
    clear hX
    replace g3 := g3.kept b0 (by simp [notInt]) hg
    replace b0 := hB
    replace H0 := below_only H0 hg (by omega) H0.size
    clear hg hB
    refine bodyPost_ret (ret_numq rfl rfl b0) rfl ?_
    exact ⟨s3, A3, n3, c3, D3, m3, e3, rfl, g3, H0⟩
  · skip
    go_enter Tryz.func34, Tryz.ntmps34
    go_wp2_with fail
    obtain ⟨W0, hW, b0, hbW, hszW0⟩ := boxes1 w #[.bool false, .slice none 0 0, .slice none 0 0] 37
    rw [hW]
    clear hW
    have H0 := hbW
    clear hbW
    refine (nint_v z h0 h1 _).mono ?_
    rintro e w1 ⟨s1, A1, n1, c1, rfl, g1, hb⟩
    replace b0 := b0.below hb
    replace H0 := H0.trans (hb.mono H0.size)
    clear hb
    go_wp2_with fail
    refine (word_v 3 (by decide) _).mono ?_
    rintro e w2 ⟨A2, n2, c2, rfl, g2, hb⟩
    replace g1 := g1.below hb
    replace b0 := b0.below hb
    replace H0 := H0.trans (hb.mono H0.size)
    clear hb
    go_wp2_with fail
    refine (nfrac_v g1 g2 (by decide) (by decide)).mono ?_
    rintro e w3 ⟨s3, A3, n3, c3, D3, m3, e3, rfl, g3, hb⟩
    replace g1 := g1.below hb
    replace g2 := g2.below hb
    replace b0 := b0.below hb
    replace H0 := H0.trans (hb.mono H0.size)
    clear hb
    clear g1
    clear g2
    obtain ⟨cb00, yb00, cb01, yb01, cb02, yb02⟩ := b0.cf3
    go_wp2_with fail
    clear cb00 yb00 cb01 yb01 cb02 yb02
    have hg := only_store3 w3 (w.heap.size) (.bool s3) (.slice A3 n3 c3) (.slice D3 m3 e3)
    have hB := b0.stored3 (.bool s3) (.slice A3 n3 c3) (.slice D3 m3 e3)
    generalize hX : (((w3.setCell ⟨w.heap.size, 0, none⟩ (.bool s3)).setCell ⟨w.heap.size, 1, none⟩ (.slice A3 n3 c3)).setCell ⟨w.heap.size, 2, none⟩ (.slice D3 m3 e3)) = X4 at hg hB ⊢
    clear hX
    replace g3 := g3.kept b0 (by simp [notInt]) hg
    replace b0 := hB
    replace H0 := below_only H0 hg (by omega) H0.size
    clear hg hB
    refine bodyPost_ret (ret_numq rfl rfl b0) rfl ?_
    exact ⟨s3, A3, n3, c3, D3, m3, e3, rfl, g3, H0⟩
  · skip
    go_enter Tryz.func34, Tryz.ntmps34
    go_wp2_with fail
    obtain ⟨W0, hW, b0, hbW, hszW0⟩ := boxes1 w #[.bool false, .slice none 0 0, .slice none 0 0] 37
    rw [hW]
    clear hW
    have H0 := hbW
    clear hbW
    refine (nint_v z h0 h1 _).mono ?_
    rintro e w1 ⟨s1, A1, n1, c1, rfl, g1, hb⟩
    replace b0 := b0.below hb
    replace H0 := H0.trans (hb.mono H0.size)
    clear hb
    go_wp2_with fail
    refine (word_v 4 (by decide) _).mono ?_
    rintro e w2 ⟨A2, n2, c2, rfl, g2, hb⟩
    replace g1 := g1.below hb
    replace b0 := b0.below hb
    replace H0 := H0.trans (hb.mono H0.size)
    clear hb
    go_wp2_with fail
    refine (nfrac_v g1 g2 (by decide) (by decide)).mono ?_
    rintro e w3 ⟨s3, A3, n3, c3, D3, m3, e3, rfl, g3, hb⟩
    replace g1 := g1.below hb
    replace g2 := g2.below hb
    replace b0 := b0.below hb
    replace H0 := H0.trans (hb.mono H0.size)
    clear hb
    clear g1
    clear g2
    obtain ⟨cb00, yb00, cb01, yb01, cb02, yb02⟩ := b0.cf3
    go_wp2_with fail
    clear cb00 yb00 cb01 yb01 cb02 yb02
    have hg := only_store3 w3 (w.heap.size) (.bool s3) (.slice A3 n3 c3) (.slice D3 m3 e3)
    have hB := b0.stored3 (.bool s3) (.slice A3 n3 c3) (.slice D3 m3 e3)
    generalize hX : (((w3.setCell ⟨w.heap.size, 0, none⟩ (.bool s3)).setCell ⟨w.heap.size, 1, none⟩ (.slice A3 n3 c3)).setCell ⟨w.heap.size, 2, none⟩ (.slice D3 m3 e3)) = X4 at hg hB ⊢
    clear hX
    replace g3 := g3.kept b0 (by simp [notInt]) hg
    replace b0 := hB
    replace H0 := below_only H0 hg (by omega) H0.size
    clear hg hB
    refine bodyPost_ret (ret_numq rfl rfl b0) rfl ?_
    exact ⟨s3, A3, n3, c3, D3, m3, e3, rfl, g3, H0⟩
theorem wrap4 {r : Nat} (hr : r < 9) : IntKind.i64.wrap ((r : Int) - 4) = (r : Int) - 4 := by simp [IntKind.wrap, IntKind.bits, IntKind.signed]; omega
theorem wrap2 {r : Nat} (hr : r < 9) : IntKind.i64.wrap (2 * ((r : Int) - 4)) = 2 * ((r : Int) - 4) := by simp [IntKind.wrap, IntKind.bits, IntKind.signed]; omega
theorem wrap21 {r : Nat} (hr : r < 9) : IntKind.i64.wrap (2 * ((r : Int) - 4) + 1) = 2 * ((r : Int) - 4) + 1 := by simp [IntKind.wrap, IntKind.bits, IntKind.signed]; omega
theorem wrap3 {r : Nat} (hr : r < 9) : IntKind.i64.wrap (3 * ((r : Int) - 4)) = 3 * ((r : Int) - 4) := by simp [IntKind.wrap, IntKind.bits, IntKind.signed]; omega
theorem wrap31 {r : Nat} (hr : r < 9) : IntKind.i64.wrap (3 * ((r : Int) - 4) + 1) = 3 * ((r : Int) - 4) + 1 := by simp [IntKind.wrap, IntKind.bits, IntKind.signed]; omega
set_option maxRecDepth 100000 in
set_option maxHeartbeats 4000000 in
theorem tq_v {b : Nat} (hT : Tape w b) (hb : b < w.heap.size) :
    Calls Tryz.prog 33 #[.pointer (some ⟨b, 0, none⟩)] w fun e w' => ∃ q, ∃ s1 A1 n1 c1 D1 m1 e1, e = .returned (.agg #[.bool s1, .slice A1 n1 c1, .slice D1 m1 e1]) ∧ PQ w' s1 (.slice A1 n1 c1) (.slice D1 m1 e1) q (2) ∧ Tape w' b ∧ w.grownBy w' (some b) := by
  go_enter Tryz.func33, Tryz.ntmps33
  go_wp2_with fail
  have G0 : w.grownBy w (some b) := ⟨rfl, rfl, rfl, Nat.le_refl _, fun _ _ _ => rfl⟩
  have hlt := hb
  obtain ⟨W0, hW, b0, hbW, hszW0⟩ := boxes1 w #[.bool false, .slice none 0 0, .slice none 0 0] 37
  rw [hW]
  clear hW
  replace hT := hT.keep hbW hlt
  replace hlt := Nat.lt_of_lt_of_le hlt hbW.size
  replace G0 := only_below G0 hbW G0.size
  clear hbW
  refine (next_any 9 (by omega) (by omega) hT).mono ?_
  rintro e w1 ⟨r, rfl, hr, hT', hg⟩
  replace b0 := b0.other hg (by omega)
  replace hlt := Nat.lt_of_lt_of_le hlt hg.size
  replace G0 := only_trans G0 hg
  clear hT
  have hT := hT'
  clear hT' hg
  have wr := wrap4 hr
  go_wp2_with fail
  refine (next_any 6 (by omega) (by omega) hT).mono ?_
  rintro e w2 ⟨r1, rfl, hr1, hT', hg⟩
  replace b0 := b0.other hg (by omega)
  replace hlt := Nat.lt_of_lt_of_le hlt hg.size
  replace G0 := only_trans G0 hg
  clear hT
  have hT := hT'
  clear hT' hg
  rcases Decidable.em (r1 = 0) with h1 | h1
  · skip
    subst h1
    have wr2 := wrap2 hr
    have wr3 := wrap21 hr
    go_wp2_with fail
    refine (npart_v (d := 2) (2 * ((r : Int) - 4) + 1) (by omega) (by omega) (by omega)).mono ?_
    rintro e w3 ⟨s1, A1, n1, c1, D1, m1, e1, rfl, g1, hb⟩
    replace b0 := b0.below hb
    replace hT := hT.keep hb hlt
    replace hlt := Nat.lt_of_lt_of_le hlt hb.size
    replace G0 := only_below G0 hb G0.size
    clear hb
    obtain ⟨cb00, yb00, cb01, yb01, cb02, yb02⟩ := b0.cf3
    go_wp2_with fail
    clear cb00 yb00 cb01 yb01 cb02 yb02
    have hg := only_store3 w3 (w.heap.size) (.bool s1) (.slice A1 n1 c1) (.slice D1 m1 e1)
    have hB := b0.stored3 (.bool s1) (.slice A1 n1 c1) (.slice D1 m1 e1)
    generalize hX : (((w3.setCell ⟨w.heap.size, 0, none⟩ (.bool s1)).setCell ⟨w.heap.size, 1, none⟩ (.slice A1 n1 c1)).setCell ⟨w.heap.size, 2, none⟩ (.slice D1 m1 e1)) = X4 at hg hB ⊢
    clear hX
    replace g1 := g1.kept b0 (by simp [notInt]) hg
    replace b0 := hB
    have hBs := below_only (Below.refl w.heap.size w3) hg (by omega) G0.size
    replace hT := hT.keep hBs hb
    replace G0 := only_below G0 hBs (Nat.le_refl _)
    replace hlt := Nat.lt_of_lt_of_le hlt hg.size
    clear hg hB hBs
    refine bodyPost_ret (ret_numq rfl rfl b0) rfl ?_
    exact ⟨_, s1, A1, n1, c1, D1, m1, e1, rfl, g1, hT, G0⟩
  · skip
    have hr0 : ((r1 : Int) == 0) = false := by rw [beq_eq_false_iff_ne]; omega
    rcases Decidable.em (r1 = 1) with h2 | h2
    · skip
      subst h2
      have wr2 := wrap3 hr
      have wr3 := wrap31 hr
      go_wp2_with fail
      refine (npart_v (d := 3) (3 * ((r : Int) - 4) + 1) (by omega) (by omega) (by omega)).mono ?_
      rintro e w3 ⟨s1, A1, n1, c1, D1, m1, e1, rfl, g1, hb⟩
      replace b0 := b0.below hb
      replace hT := hT.keep hb hlt
      replace hlt := Nat.lt_of_lt_of_le hlt hb.size
      replace G0 := only_below G0 hb G0.size
      clear hb
      obtain ⟨cb00, yb00, cb01, yb01, cb02, yb02⟩ := b0.cf3
      go_wp2_with fail
      clear cb00 yb00 cb01 yb01 cb02 yb02
      have hg := only_store3 w3 (w.heap.size) (.bool s1) (.slice A1 n1 c1) (.slice D1 m1 e1)
      have hB := b0.stored3 (.bool s1) (.slice A1 n1 c1) (.slice D1 m1 e1)
      generalize hX : (((w3.setCell ⟨w.heap.size, 0, none⟩ (.bool s1)).setCell ⟨w.heap.size, 1, none⟩ (.slice A1 n1 c1)).setCell ⟨w.heap.size, 2, none⟩ (.slice D1 m1 e1)) = X4 at hg hB ⊢
      clear hX
      replace g1 := g1.kept b0 (by simp [notInt]) hg
      replace b0 := hB
      have hBs := below_only (Below.refl w.heap.size w3) hg (by omega) G0.size
      replace hT := hT.keep hBs hb
      replace G0 := only_below G0 hBs (Nat.le_refl _)
      replace hlt := Nat.lt_of_lt_of_le hlt hg.size
      clear hg hB hBs
      refine bodyPost_ret (ret_numq rfl rfl b0) rfl ?_
      exact ⟨_, s1, A1, n1, c1, D1, m1, e1, rfl, g1, hT, G0⟩
    · skip
      have hr2 : ((r1 : Int) == 1) = false := by rw [beq_eq_false_iff_ne]; omega
      go_wp2_with fail
      refine (nof_v ((r : Int) - 4) (by omega) (by omega) _).mono ?_
      rintro e w3 ⟨s1, A1, n1, c1, D1, m1, e1, rfl, g1, hb⟩
      replace b0 := b0.below hb
      replace hT := hT.keep hb hlt
      replace hlt := Nat.lt_of_lt_of_le hlt hb.size
      replace G0 := only_below G0 hb G0.size
      clear hb
      obtain ⟨cb00, yb00, cb01, yb01, cb02, yb02⟩ := b0.cf3
      go_wp2_with fail
      clear cb00 yb00 cb01 yb01 cb02 yb02
      have hg := only_store3 w3 (w.heap.size) (.bool s1) (.slice A1 n1 c1) (.slice D1 m1 e1)
      have hB := b0.stored3 (.bool s1) (.slice A1 n1 c1) (.slice D1 m1 e1)
      generalize hX : (((w3.setCell ⟨w.heap.size, 0, none⟩ (.bool s1)).setCell ⟨w.heap.size, 1, none⟩ (.slice A1 n1 c1)).setCell ⟨w.heap.size, 2, none⟩ (.slice D1 m1 e1)) = X4 at hg hB ⊢
      clear hX
      replace g1 := g1.kept b0 (by simp [notInt]) hg
      replace b0 := hB
      have hBs := below_only (Below.refl w.heap.size w3) hg (by omega) G0.size
      replace hT := hT.keep hBs hb
      replace G0 := only_below G0 hBs (Nat.le_refl _)
      replace hlt := Nat.lt_of_lt_of_le hlt hg.size
      clear hg hB hBs
      refine bodyPost_ret (ret_numq rfl rfl b0) rfl ?_
      exact ⟨_, s1, A1, n1, c1, D1, m1, e1, rfl, g1, hT, G0⟩
end
end Go.Proofs.YtpgkkkodniiilaaGreatDoor
