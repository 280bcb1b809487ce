/-
  Rational numbers from the tape.
-/
import Derived.Test.YtkhfadfjkmhpgaaGreatDoorRatR
import Derived.Deep.Cut
namespace Go.Proofs.YtkhfadfjkmhpgaaGreatDoor
open Go.RowKit

section
variable {A0 A1 A2 A3 D0 D1 D2 D3 : Option Addr} {n0 n1 n2 n3 c0 c1 c2 c3 m0 m1 m2 m3 e0 e1 e2 e3 : Nat} {s0 s1 s2 s3 : Bool} {z z' z0 z1 z2 : Int} {q q' q0 q1 q2 : Rat} {L L0 L1 L2 x x0 x1 y : Nat} {w : World}
theorem RV.tape {w' : World} {v : Value} {x L b : Nat} (h : RV w v x L) (ht : Tape w b) (hg : w.grownBy w' (some b)) : RV w' v x L := by
  obtain ⟨A, n, c, t, h1, _⟩ := ht
  obtain ⟨ds, k1, k2, k3⟩ := h
  exact ⟨ds, Raw.keepBut k1 hg (Raw.apart k1 (cs := #[.slice A n c, .int .i64 (t : Int)]) h1 (by simp [notInt])), k2, k3⟩
theorem NV.tape {w' : World} {v : Value} {x L b : Nat} (h : NV w v x L) (ht : Tape w b) (hg : w.grownBy w' (some b)) : NV w' v x L := h.other ht hg
theorem NI.tape {w' : World} {v : Value} {L b : Nat} (h : NI w s0 v z L) (ht : Tape w b) (hg : w.grownBy w' (some b)) : NI w' s0 v z L := ⟨h.1.tape ht hg, h.2⟩
theorem RI.tape {w' : World} {v : Value} {L b : Nat} (h : RI w s0 v z L) (ht : Tape w b) (hg : w.grownBy w' (some b)) : RI w' s0 v z L := by
  obtain ⟨x, h1, h2⟩ := h; exact ⟨x, h1.tape ht hg, h2⟩
theorem PQ.tape {w' : World} {v u : Value} {L b : Nat} (h : PQ w s0 v u q L) (ht : Tape w b) (hg : w.grownBy w' (some b)) : PQ w' s0 v u q L := ⟨h.1.tape ht hg, h.2.tape ht hg⟩
theorem RQ.tape {w' : World} {v u : Value} {L b : Nat} (h : RQ w s0 v u q L) (ht : Tape w b) (hg : w.grownBy w' (some b)) : RQ w' s0 v u q L := by
  obtain ⟨z, d, h1, h2, h3⟩ := h; exact ⟨z, d, h1.tape ht hg, h2.tape ht hg, h3⟩
theorem nats_r {b : Nat} (hx : NV w (.slice A0 n0 c0) x L) (k : Nat) (hk : k ≤ 1000) (hb : b < w.heap.size) (hL : L ≤ 1000) :
    Calls Tryz.prog 75 #[.slice A0 n0 c0, .int .i64 (k : Int)] w fun e w' => ∃ B m d, e = .returned (.slice B m d) ∧ RV w' (.slice B m d) x (L + 2) ∧ Below w.heap.size w w' := by
  refine (nats_v hx k hk hb (by omega)).mono ?_
  rintro e w' ⟨B, m, d, rfl, h, hb⟩
  exact ⟨B, m, d, rfl, h.rv (by omega), hb⟩
set_option maxRecDepth 100000 in
set_option maxHeartbeats 800000 in
theorem tint_v {b : Nat} (m : Nat) (hm : m ≤ 1000) (hT : Tape w b) (hb : b < w.heap.size) :
    Calls Tryz.prog 113 #[.pointer (some ⟨b, 0, none⟩), .int .i64 (m : Int)] w fun e w' => ∃ z s1 A1 n1 c1, e = .returned (.agg #[.bool s1, .slice A1 n1 c1]) ∧ NI w' s1 (.slice A1 n1 c1) z m ∧ Tape w' b ∧ w.grownBy w' (some b) := by
  go_enter Tryz.func113, Tryz.ntmps113
  go_wp2_with fail
  have G0 : w.grownBy w (some b) := ⟨rfl, rfl, rfl, Nat.le_refl _, fun _ _ _ => rfl⟩
  have hlt := hb
  obtain ⟨W0, hW, b0, hbW, hszW0⟩ := boxes1 w #[.bool false, .slice none 0 0] 32
  rw [hW]
  clear hW
  replace hT := hT.keep hbW hlt
  replace hlt := Nat.lt_of_lt_of_le hlt hbW.size
  replace G0 := only_below G0 hbW G0.size
  clear hbW
  refine (next_any 2 (by omega) (by omega) hT).mono ?_
  rintro e w1 ⟨r, rfl, hr, hT', hg⟩
  replace b0 := b0.other hg (by omega)
  replace hlt := Nat.lt_of_lt_of_le hlt hg.size
  replace G0 := only_trans G0 hg
  clear hT
  have hT := hT'
  clear hT' hg
  go_wp2_with fail
  refine (tapenat_v m hm hT hlt).mono ?_
  rintro e w2 ⟨x, A1, n1, c1, rfl, fx, hT', hg⟩
  replace b0 := b0.other hg (by omega)
  replace hlt := Nat.lt_of_lt_of_le hlt hg.size
  replace G0 := only_trans G0 hg
  clear hT
  have hT := hT'
  clear hT' hg
  go_wp2_with fail
  refine (nmake_v _ fx rfl).mono ?_
  rintro e w3 ⟨s1, rfl, fi, hb⟩
  replace fx := fx.below hb
  replace b0 := b0.below hb
  replace hT := hT.keep hb hlt
  replace hlt := Nat.lt_of_lt_of_le hlt hb.size
  replace G0 := only_below G0 hb G0.size
  clear hb
  clear fx
  have cb00 := b0.cell 0 _ rfl
  have yb00 := b0.frozen 0
  have cb01 := b0.cell 1 _ rfl
  have yb01 := b0.frozen 1
  go_wp2_with fail
  clear cb00 yb00 cb01 yb01
  have hg := only_store w3 (w.heap.size) (.bool s1) (.slice A1 n1 c1)
  have hB := b0.stored (.bool s1) (.slice A1 n1 c1)
  generalize hX : ((w3.setCell ⟨w.heap.size, 0, none⟩ (.bool s1)).setCell ⟨w.heap.size, 1, none⟩ (.slice A1 n1 c1)) = X4 at hg hB ⊢
  clear hX
  replace fi := fi.kept b0 (by simp [notInt]) hg
  replace b0 := hB
  have hBs := below_only (Below.refl w.heap.size w3) hg (by omega) G0.size
  replace hT := hT.keep hBs hb
  replace G0 := only_below G0 hBs (Nat.le_refl _)
  replace hlt := Nat.lt_of_lt_of_le hlt hg.size
  clear hg hB hBs
  refine bodyPost_ret (ret_intN rfl rfl b0) rfl ?_
  exact ⟨_, s1, A1, n1, c1, rfl, fi, hT, G0⟩
set_option maxRecDepth 100000 in
set_option maxHeartbeats 800000 in
theorem trat_v {b : Nat} (m : Nat) (hm : m ≤ 900) (hT : Tape w b) (hb : b < w.heap.size) :
    Calls Tryz.prog 72 #[.pointer (some ⟨b, 0, none⟩), .int .i64 (m : Int)] w fun e w' => ∃ q s4 A4 n4 c4 D4 m4 e4, e = .returned (.agg #[.bool s4, .slice A4 n4 c4, .slice D4 m4 e4]) ∧ PQ w' s4 (.slice A4 n4 c4) (.slice D4 m4 e4) q (max m 1) ∧ Tape w' b ∧ w.grownBy w' (some b) := by
  go_enter Tryz.func72, Tryz.ntmps72
  go_wp2_with fail
  have G0 : w.grownBy w (some b) := ⟨rfl, rfl, rfl, Nat.le_refl _, fun _ _ _ => rfl⟩
  have hlt := hb
  obtain ⟨W0, hW, b0, hbW, hszW0⟩ := boxes1 w #[.bool false, .slice none 0 0, .slice none 0 0] 34
  rw [hW]
  clear hW
  replace hT := hT.keep hbW hlt
  replace hlt := Nat.lt_of_lt_of_le hlt hbW.size
  replace G0 := only_below G0 hbW G0.size
  clear hbW
  refine (tint_v m (by omega) hT hlt).mono ?_
  rintro e w1 ⟨z, s1, A1, n1, c1, rfl, fi, hT', hg⟩
  replace b0 := b0.other hg (by omega)
  replace hlt := Nat.lt_of_lt_of_le hlt hg.size
  replace G0 := only_trans G0 hg
  clear hT
  have hT := hT'
  clear hT' hg
  go_wp2_with fail
  refine (tapenat_v m (by omega) hT hlt).mono ?_
  rintro e w2 ⟨x, A2, n2, c2, rfl, fx, hT', hg⟩
  replace fi := fi.tape hT hg
  replace b0 := b0.other hg (by omega)
  replace hlt := Nat.lt_of_lt_of_le hlt hg.size
  replace G0 := only_trans G0 hg
  clear hT
  have hT := hT'
  clear hT' hg
  rcases Nat.eq_zero_or_pos x with h0 | h0
  · subst h0
    have lb0_10 := b0.lt
    obtain ⟨W10, hW, b5, hbW, hszW10⟩ := boxes1 w2 #[.bool s1, .slice A1 n1 c1] 32
    skip
    skip
    replace fi := fi.below hbW
    replace fx := fx.below hbW
    replace b0 := b0.below hbW
    replace hT := hT.keep hbW hlt
    replace hlt := Nat.lt_of_lt_of_le hlt hbW.size
    replace G0 := only_below G0 hbW G0.size
    clear hbW
    have cb50 := b5.cell 0 _ rfl
    have cb51 := b5.cell 1 _ rfl
    have hm := nv_zero fx
    subst hm
    clear fx
    go_wp2_with fail
    clear hW
    clear cb50 cb51
    refine (none_v _).mono ?_
    rintro e w11 ⟨A3, n3, c3, rfl, f3, hb⟩
    replace fi := fi.below hb
    replace b0 := b0.below hb
    replace b5 := b5.below hb
    replace hT := hT.keep hb hlt
    replace hlt := Nat.lt_of_lt_of_le hlt hb.size
    replace G0 := only_below G0 hb G0.size
    clear hb
    have cb50 := b5.cell 0 _ rfl
    have cb51 := b5.cell 1 _ rfl
    go_wp2_with fail
    clear cb50 cb51
    refine (nfrac_v (fi.more (L' := max m 1) (by omega)) (NV.more f3 (by omega)) (by omega) (by omega)).mono ?_
    rintro e w12 ⟨s4, A4, n4, c4, D4, m4, e4, rfl, fq, hb⟩
    replace fi := fi.below hb
    replace f3 := f3.below hb
    replace b0 := b0.below hb
    replace b5 := b5.below hb
    replace hT := hT.keep hb hlt
    replace hlt := Nat.lt_of_lt_of_le hlt hb.size
    replace G0 := only_below G0 hb G0.size
    clear hb
    have cb00 := b0.cell 0 _ rfl
    have yb00 := b0.frozen 0
    have cb01 := b0.cell 1 _ rfl
    have yb01 := b0.frozen 1
    have cb02 := b0.cell 2 _ rfl
    have yb02 := b0.frozen 2
    go_wp2_with fail
    clear cb00 yb00 cb01 yb01 cb02 yb02
    have hg := only_store3 w12 (w.heap.size) (.bool s4) (.slice A4 n4 c4) (.slice D4 m4 e4)
    have hB := b0.stored3 (.bool s4) (.slice A4 n4 c4) (.slice D4 m4 e4)
    generalize hX : (((w12.setCell ⟨w.heap.size, 0, none⟩ (.bool s4)).setCell ⟨w.heap.size, 1, none⟩ (.slice A4 n4 c4)).setCell ⟨w.heap.size, 2, none⟩ (.slice D4 m4 e4)) = X13 at hg hB ⊢
    clear hX
    replace fi := fi.kept b0 (by simp [notInt]) hg
    replace f3 := f3.kept b0 (by simp [notInt]) hg
    replace fq := fq.kept b0 (by simp [notInt]) hg
    replace b5 := b5.other hg (by omega)
    replace b0 := hB
    have hBs := below_only (Below.refl w.heap.size w12) hg (by omega) G0.size
    replace hT := hT.keep hBs hb
    replace G0 := only_below G0 hBs (Nat.le_refl _)
    replace hlt := Nat.lt_of_lt_of_le hlt hg.size
    clear hg hB hBs
    refine bodyPost_ret (ret_numq rfl rfl b0) rfl ?_
    exact ⟨_, s4, A4, n4, c4, D4, m4, e4, rfl, fq, hT, G0⟩
  · skip
    have lb0_10 := b0.lt
    obtain ⟨W10, hW, b5, hbW, hszW10⟩ := boxes1 w2 #[.bool s1, .slice A1 n1 c1] 32
    skip
    skip
    replace fi := fi.below hbW
    replace fx := fx.below hbW
    replace b0 := b0.below hbW
    replace hT := hT.keep hbW hlt
    replace hlt := Nat.lt_of_lt_of_le hlt hbW.size
    replace G0 := only_below G0 hbW G0.size
    clear hbW
    have cb50 := b5.cell 0 _ rfl
    have cb51 := b5.cell 1 _ rfl
    have hm := nv_pos fx h0
    have hm1 : ((n2 : Int) == 0) = false := by rw [beq_eq_false_iff_ne]; omega
    go_wp2_with fail
    clear hW
    clear cb50 cb51
    refine (nfrac_v (fi.more (L' := max m 1) (by omega)) (NV.more fx (by omega)) (by omega) (by omega)).mono ?_
    rintro e w11 ⟨s4, A4, n4, c4, D4, m4, e4, rfl, fq, hb⟩
    replace fi := fi.below hb
    replace fx := fx.below hb
    replace b0 := b0.below hb
    replace b5 := b5.below hb
    replace hT := hT.keep hb hlt
    replace hlt := Nat.lt_of_lt_of_le hlt hb.size
    replace G0 := only_below G0 hb G0.size
    clear hb
    have cb00 := b0.cell 0 _ rfl
    have yb00 := b0.frozen 0
    have cb01 := b0.cell 1 _ rfl
    have yb01 := b0.frozen 1
    have cb02 := b0.cell 2 _ rfl
    have yb02 := b0.frozen 2
    go_wp2_with fail
    clear cb00 yb00 cb01 yb01 cb02 yb02
    have hg := only_store3 w11 (w.heap.size) (.bool s4) (.slice A4 n4 c4) (.slice D4 m4 e4)
    have hB := b0.stored3 (.bool s4) (.slice A4 n4 c4) (.slice D4 m4 e4)
    generalize hX : (((w11.setCell ⟨w.heap.size, 0, none⟩ (.bool s4)).setCell ⟨w.heap.size, 1, none⟩ (.slice A4 n4 c4)).setCell ⟨w.heap.size, 2, none⟩ (.slice D4 m4 e4)) = X12 at hg hB ⊢
    clear hX
    replace fi := fi.kept b0 (by simp [notInt]) hg
    replace fx := fx.kept b0 (by simp [notInt]) hg
    replace fq := fq.kept b0 (by simp [notInt]) hg
    replace b5 := b5.other hg (by omega)
    replace b0 := hB
    have hBs := below_only (Below.refl w.heap.size w11) hg (by omega) G0.size
    replace hT := hT.keep hBs hb
    replace G0 := only_below G0 hBs (Nat.le_refl _)
    replace hlt := Nat.lt_of_lt_of_le hlt hg.size
    clear hg hB hBs
    refine bodyPost_ret (ret_numq rfl rfl b0) rfl ?_
    exact ⟨_, s4, A4, n4, c4, D4, m4, e4, rfl, fq, hT, G0⟩
theorem Box.stored32 {g : Nat} {t : TypeId} {a c d : Value} (h : Box w g #[a, c, d] t) (u : Value) : Box (w.setCell ⟨g, 2, none⟩ u) g #[a, c, u] t := by
  unfold Box; rw [heap_setCell_same w g 2 _ _ _ h]; simp
set_option maxRecDepth 100000 in
set_option maxHeartbeats 8000000 in
theorem rmade_v {b : Nat} (hT : Tape w b) (hb : b < w.heap.size) :
    Calls Tryz.prog 26 #[.pointer (some ⟨b, 0, none⟩)] w fun e w' => ∃ q s4 A4 n4 c4 D4 m4 e4, e = .returned (.agg #[.bool s4, .slice A4 n4 c4, .slice D4 m4 e4]) ∧ RQ w' s4 (.slice A4 n4 c4) (.slice D4 m4 e4) q 6 ∧ Tape w' b ∧ w.grownBy w' (some b) := by
  go_enter Tryz.func26, Tryz.ntmps26
  go_wp2_with fail
  have G0 : w.grownBy w (some b) := ⟨rfl, rfl, rfl, Nat.le_refl _, fun _ _ _ => rfl⟩
  have hlt := hb
  obtain ⟨W0, hW, b0, hbW, hszW0⟩ := boxes1 w #[.bool false, .slice none 0 0, .slice none 0 0] 27
  rw [hW]
  clear hW
  replace hT := hT.keep hbW hlt
  replace hlt := Nat.lt_of_lt_of_le hlt hbW.size
  replace G0 := only_below G0 hbW G0.size
  clear hbW
  refine (trat_v 3 (by omega) hT hlt).mono ?_
  rintro e w1 ⟨q, s1, A1, n1, c1, D1, m1, e1, rfl, fq, hT', hg⟩
  replace b0 := b0.other hg (by omega)
  replace hlt := Nat.lt_of_lt_of_le hlt hg.size
  replace G0 := only_trans G0 hg
  clear hT
  have hT := hT'
  clear hT' hg
  go_wp2_with fail
  refine (tapenat_v 1 (by omega) hT hlt).mono ?_
  rintro e w2 ⟨x0, A4, n4, c4, rfl, fx, hT', hg⟩
  replace fq := fq.tape hT hg
  replace b0 := b0.other hg (by omega)
  replace hlt := Nat.lt_of_lt_of_le hlt hg.size
  replace G0 := only_trans G0 hg
  clear hT
  have hT := hT'
  clear hT' hg
  have lb0_3 := b0.lt
  obtain ⟨W3, hW, b3, hbW, hszW3⟩ := boxes1 w2 #[.bool s1, .slice A1 n1 c1, .slice D1 m1 e1] 34
  skip
  skip
  replace fq := fq.below hbW
  replace fx := fx.below hbW
  replace b0 := b0.below hbW
  replace hT := hT.keep hbW hlt
  replace hlt := Nat.lt_of_lt_of_le hlt hbW.size
  replace G0 := only_below G0 hbW G0.size
  clear hbW
  go_upto_if 12 with fail
  clear hW
  go_cut [4] from 6 (fun s4 wx => ∃ y A2 n2 c2, s4 = .slice A2 n2 c2 ∧ NV wx (.slice A2 n2 c2) y 1 ∧ PQ wx s1 (.slice A1 n1 c1) (.slice D1 m1 e1) q (max 3 1) ∧ Box wx w2.heap.size #[.bool s1, .slice A1 n1 c1, .slice D1 m1 e1] 34 ∧ Box wx w.heap.size #[.bool false, .slice none 0 0, .slice none 0 0] 27 ∧ Tape wx b ∧ w.grownBy wx (some b) ∧ b < wx.heap.size)
  case first =>
    rcases Nat.eq_zero_or_pos x0 with h0 | h0
    · subst h0
      have hm := nv_zero fx
      subst hm
      clear fx
      go_wp2_with fail
      refine (none_v _).mono ?_
      rintro e w4 ⟨A2, n2, c2, rfl, fx, hb⟩
      replace fq := fq.below hb
      replace b0 := b0.below hb
      replace b3 := b3.below hb
      replace hT := hT.keep hb hlt
      replace hlt := Nat.lt_of_lt_of_le hlt hb.size
      replace G0 := only_below G0 hb G0.size
      clear hb
      go_wp2_with fail
      go_meet
      exact ⟨_, A2, n2, c2, rfl, fx, fq, b3, b0, hT, G0, hlt⟩
    · have hm := nv_pos fx h0
      have hm1 : ((n4 : Int) == 0) = false := by rw [beq_eq_false_iff_ne]; omega
      go_wp2_with fail
      go_meet
      exact ⟨_, A4, n4, c4, rfl, fx, fq, b3, b0, hT, G0, hlt⟩
  case rest =>
    have lt0 := b0.lt
    have lt3 := b3.lt
    clear fq fx b3 b0 hT G0 hlt
    obtain ⟨y, A2, n2, c2, rfl, fx, fq, b3, b0, hT, G0, hlt⟩ := hcut
    go_wp2_with fail
    go_cut [5] from 6 (fun s5 wx => ∃ g s9 A9 n9 c9 D8 m8 e8 z d, s5 = .pointer (some ⟨g, 0, none⟩) ∧ Box wx g #[.bool s9, .slice A9 n9 c9, .slice D8 m8 e8] 27 ∧ RI wx s9 (.slice A9 n9 c9) z 6 ∧ RV wx (.slice D8 m8 e8) d 6 ∧ Box wx w.heap.size #[.bool false, .slice none 0 0, .slice none 0 0] 27 ∧ Tape wx b ∧ w.grownBy wx (some b) ∧ b < wx.heap.size ∧ w.heap.size < g)
    case first =>
      have hD := drawn_below wc
      replace fq := fq.below hD
      replace fx := fx.below hD
      replace b0 := b0.below hD
      replace b3 := b3.below hD
      replace hT := hT.keep hD hlt
      replace hlt := Nat.lt_of_lt_of_le hlt hD.size
      replace G0 := only_below G0 hD G0.size
      clear hD
      refine wp_region_noPanic ?_
      refine wp_region_held_drew (S := (fun V => V.cell? ⟨w2.heap.size, 0, none⟩ = some (.bool s1) ∧ V.cell? ⟨w2.heap.size, 1, none⟩ = some (.slice A1 n1 c1) ∧ V.cell? ⟨w2.heap.size, 2, none⟩ = some (.slice D1 m1 e1))) (by kernel_rfl) ⟨b3.cell 0 _ rfl, b3.cell 1 _ rfl, b3.cell 2 _ rfl⟩ (fun hHeld => ?_)
      generalize wc.drew = v100 at fq fx b0 b3 hT G0 hlt hHeld ⊢
      refine wpAnyH_take (i := 0) (v := ?_) rfl (by kernel_rfl) (by kernel_rfl) (by kernel_rfl) (fun _ _ _ h => h) (Or.inl ⟨by rfl, ?_⟩) (by assumption) ?_
      rotate_left
      · (intro w hSw; (try dsimp only at hSw); go_simp; (try with_reducible rfl))
      (try simp only [List.getElem_toArray, List.getElem_cons_zero, Act.put, List.setIfInBounds_toArray, List.set_cons_zero, List.set_cons_succ])
      refine wpAnyH_take (i := 1) (v := ?_) rfl (by kernel_rfl) (by kernel_rfl) (by kernel_rfl) (fun _ _ _ h => h) (Or.inl ⟨by rfl, ?_⟩) (by assumption) ?_
      rotate_left
      · (intro w hSw; (try dsimp only at hSw); go_simp; (try with_reducible rfl))
      (try simp only [List.getElem_toArray, List.getElem_cons_succ, List.getElem_cons_zero, Act.put, List.setIfInBounds_toArray, List.set_cons_zero, List.set_cons_succ])
      refine wpAnyH_take (i := 2) (v := ?_) rfl (by kernel_rfl) (by kernel_rfl) (by kernel_rfl) (fun _ _ _ h => h) (Or.inl ⟨by rfl, ?_⟩) (by assumption) ?_
      rotate_left
      · (intro w hSw; (try dsimp only at hSw); go_simp; (try with_reducible rfl))
      (try simp only [List.getElem_toArray, List.getElem_cons_succ, List.getElem_cons_zero, Act.put, List.setIfInBounds_toArray, List.set_cons_zero, List.set_cons_succ])
      refine wpAnyH_take (i := 6) (v := ?_) rfl (by kernel_rfl) (by kernel_rfl) (by kernel_rfl) (fun _ _ _ h => h) (Or.inl ⟨by rfl, ?_⟩) (by assumption) ?_
      rotate_left
      · (intro w hSw; (try dsimp only at hSw); go_simp; (try with_reducible rfl))
      (try simp only [List.getElem_toArray, List.getElem_cons_succ, List.getElem_cons_zero, Act.put, List.setIfInBounds_toArray, List.set_cons_zero, List.set_cons_succ])
      refine wpAnyH_take (i := 8) (v := ?_) rfl (by kernel_rfl) (by kernel_rfl) (by kernel_rfl) (fun _ _ _ h => h) (Or.inl ⟨by rfl, ?_⟩) (by assumption) ?_
      rotate_left
      · (intro w hSw; (try dsimp only at hSw); go_simp; (try with_reducible rfl))
      (try simp only [List.getElem_toArray, List.getElem_cons_succ, List.getElem_cons_zero, Act.put, List.setIfInBounds_toArray, List.set_cons_zero, List.set_cons_succ])
      refine wpAnyH_take (i := 10) (v := ?_) rfl (by kernel_rfl) (by kernel_rfl) (by kernel_rfl) (fun _ _ _ h => h) (Or.inl ⟨by rfl, ?_⟩) (by assumption) ?_
      rotate_left
      · (intro w hSw; (try dsimp only at hSw); go_simp; (try with_reducible rfl))
      (try simp only [List.getElem_toArray, List.getElem_cons_succ, List.getElem_cons_zero, Act.put, List.setIfInBounds_toArray, List.set_cons_zero, List.set_cons_succ])
      refine wpAnyH_ready (rs := [3, 14]) (by kernel_rfl) (by simp) (AllReadyH.cons (o := _) rfl (fun K hK => ?_) (AllReadyH.cons (o := _) rfl (fun K hK => ?_) AllReadyH.nil))
      · go_simp
        go_at_call 56
        refine (nmake_v false fx rfl).mono ?_
        rintro e y101 ⟨s4, rfl, f4, hb9⟩
        replace fq := fq.below hb9
        replace fx := fx.below hb9
        replace b0 := b0.below hb9
        replace b3 := b3.below hb9
        replace hT := hT.keep hb9 hlt
        replace hlt := Nat.lt_of_lt_of_le hlt hb9.size
        replace G0 := only_below G0 hb9 G0.size
        clear hb9
        go_wp2_with fail
        refine hK.out _ _ ⟨b3.cell 0 _ rfl, b3.cell 1 _ rfl, b3.cell 2 _ rfl⟩ (fun hHeld => ?_)
        clear hK K
        (try simp only [List.getElem_toArray, List.getElem_cons_succ, List.getElem_cons_zero, Act.put, List.setIfInBounds_toArray, List.set_cons_zero, List.set_cons_succ])
        refine wpAnyH_ready (rs := [4, 14]) (by kernel_rfl) (by simp) (AllReadyH.cons (o := _) rfl (fun K hK => ?_) (AllReadyH.cons (o := _) rfl (fun K hK => ?_) AllReadyH.nil))
        · go_simp
          go_at_call 58
          refine (nmul_v fq.1 f4 (by omega) (by omega)).mono ?_
          rintro e y102 ⟨s5, A5, n5, c5, rfl, f5, hb9⟩
          replace fq := fq.below hb9
          replace fx := fx.below hb9
          replace f4 := f4.below hb9
          replace b0 := b0.below hb9
          replace b3 := b3.below hb9
          replace hT := hT.keep hb9 hlt
          replace hlt := Nat.lt_of_lt_of_le hlt hb9.size
          replace G0 := only_below G0 hb9 G0.size
          clear hb9
          clear f4
          go_wp2_with fail
          refine hK.out _ _ ⟨b3.cell 0 _ rfl, b3.cell 1 _ rfl, b3.cell 2 _ rfl⟩ (fun hHeld => ?_)
          clear hK K
          (try simp only [List.getElem_toArray, List.getElem_cons_succ, List.getElem_cons_zero, Act.put, List.setIfInBounds_toArray, List.set_cons_zero, List.set_cons_succ])
          refine wpAnyH_ready (rs := [5, 14]) (by kernel_rfl) (by simp) (AllReadyH.cons (o := _) rfl (fun K hK => ?_) (AllReadyH.cons (o := _) rfl (fun K hK => ?_) AllReadyH.nil))
          · go_simp
            go_at_call 42
            refine (toI_v f5 (by omega)).mono ?_
            rintro e y103 ⟨A9, n9, c9, rfl, f9, hb9⟩
            replace fq := fq.below hb9
            replace fx := fx.below hb9
            replace f5 := f5.below hb9
            replace b0 := b0.below hb9
            replace b3 := b3.below hb9
            replace hT := hT.keep hb9 hlt
            replace hlt := Nat.lt_of_lt_of_le hlt hb9.size
            replace G0 := only_below G0 hb9 G0.size
            clear hb9
            clear f5
            go_wp2_with fail
            refine hK.out _ _ ⟨b3.cell 0 _ rfl, b3.cell 1 _ rfl, b3.cell 2 _ rfl⟩ (fun hHeld => ?_)
            clear hK K
            (try simp only [List.getElem_toArray, List.getElem_cons_succ, List.getElem_cons_zero, Act.put, List.setIfInBounds_toArray, List.set_cons_zero, List.set_cons_succ])
            refine wpAnyH_ready (rs := [7, 14]) (by kernel_rfl) (by simp) (AllReadyH.cons (o := _) rfl (fun K hK => ?_) (AllReadyH.cons (o := _) rfl (fun K hK => ?_) AllReadyH.nil))
            · go_simp
              go_at_call 29
              refine (nden_v fq).mono ?_
              rintro e y104 ⟨A6, n6, c6, rfl, f6, hb9⟩
              replace fq := fq.below hb9
              replace fx := fx.below hb9
              replace f9 := f9.below hb9
              replace b0 := b0.below hb9
              replace b3 := b3.below hb9
              replace hT := hT.keep hb9 hlt
              replace hlt := Nat.lt_of_lt_of_le hlt hb9.size
              replace G0 := only_below G0 hb9 G0.size
              clear hb9
              clear fq
              go_wp2_with fail
              refine hK.out _ _ ⟨b3.cell 0 _ rfl, b3.cell 1 _ rfl, b3.cell 2 _ rfl⟩ (fun hHeld => ?_)
              clear hK K
              (try simp only [List.getElem_toArray, List.getElem_cons_succ, List.getElem_cons_zero, Act.put, List.setIfInBounds_toArray, List.set_cons_zero, List.set_cons_succ])
              refine wpAnyH_ready (rs := [9, 14]) (by kernel_rfl) (by simp) (AllReadyH.cons (o := _) rfl (fun K hK => ?_) (AllReadyH.cons (o := _) rfl (fun K hK => ?_) AllReadyH.nil))
              · go_simp
                go_at_call 59
                refine (nprod_v f6 fx (by omega) (by omega)).mono ?_
                rintro e y105 ⟨A7, n7, c7, rfl, f7, hb9⟩
                replace fx := fx.below hb9
                replace f9 := f9.below hb9
                replace f6 := f6.below hb9
                replace b0 := b0.below hb9
                replace b3 := b3.below hb9
                replace hT := hT.keep hb9 hlt
                replace hlt := Nat.lt_of_lt_of_le hlt hb9.size
                replace G0 := only_below G0 hb9 G0.size
                clear hb9
                clear f6
                clear fx
                go_wp2_with fail
                refine hK.out _ _ ⟨b3.cell 0 _ rfl, b3.cell 1 _ rfl, b3.cell 2 _ rfl⟩ (fun hHeld => ?_)
                clear hK K
                (try simp only [List.getElem_toArray, List.getElem_cons_succ, List.getElem_cons_zero, Act.put, List.setIfInBounds_toArray, List.set_cons_zero, List.set_cons_succ])
                refine wpAnyH_ready (rs := [11, 14]) (by kernel_rfl) (by simp) (AllReadyH.cons (o := _) rfl (fun K hK => ?_) (AllReadyH.cons (o := _) rfl (fun K hK => ?_) AllReadyH.nil))
                · go_simp
                  go_at_call 45
                  refine (next_any 3 (by omega) (by omega) hT).mono ?_
                  rintro e y106 ⟨r3, rfl, hr3, hT', hg⟩
                  replace f9 := f9.tape hT hg
                  replace f7 := f7.tape hT hg
                  replace b0 := b0.other hg (by omega)
                  replace b3 := b3.other hg (by omega)
                  replace hlt := Nat.lt_of_lt_of_le hlt hg.size
                  replace G0 := only_trans G0 hg
                  clear hT
                  have hT := hT'
                  clear hT' hg
                  go_wp2_with fail
                  refine hK.out _ _ ⟨b3.cell 0 _ rfl, b3.cell 1 _ rfl, b3.cell 2 _ rfl⟩ (fun hHeld => ?_)
                  clear hK K
                  (try simp only [List.getElem_toArray, List.getElem_cons_succ, List.getElem_cons_zero, Act.put, List.setIfInBounds_toArray, List.set_cons_zero, List.set_cons_succ])
                  refine wpAnyH_ready (rs := [12, 14]) (by kernel_rfl) (by simp) (AllReadyH.cons (o := _) rfl (fun K hK => ?_) (AllReadyH.cons (o := _) rfl (fun K hK => ?_) AllReadyH.nil))
                  · go_simp
                    go_at_call 75
                    refine (nats_r f7 r3 (by omega) hlt (by omega)).mono ?_
                    rintro e y107 ⟨D8, m8, e8, rfl, f8, hb9⟩
                    replace f9 := f9.below hb9
                    replace f7 := f7.below hb9
                    replace b0 := b0.below hb9
                    replace b3 := b3.below hb9
                    replace hT := hT.keep hb9 hlt
                    replace hlt := Nat.lt_of_lt_of_le hlt hb9.size
                    replace G0 := only_below G0 hb9 G0.size
                    clear hb9
                    clear f7
                    go_wp2_with fail
                    refine hK.out _ _ ⟨b3.cell 0 _ rfl, b3.cell 1 _ rfl, b3.cell 2 _ rfl⟩ (fun hHeld => ?_)
                    clear hK K
                    (try simp only [List.getElem_toArray, List.getElem_cons_succ, List.getElem_cons_zero, Act.put, List.setIfInBounds_toArray, List.set_cons_zero, List.set_cons_succ])
                    refine wpAnyH_take (i := 13) (v := ?_) rfl (by kernel_rfl) (by kernel_rfl) (by kernel_rfl) (fun _ _ _ h => h) (Or.inl ⟨by rfl, ?_⟩) (by assumption) ?_
                    rotate_left
                    · (intro w hSw; (try dsimp only at hSw); go_simp; (try with_reducible rfl))
                    (try simp only [List.getElem_toArray, List.getElem_cons_succ, List.getElem_cons_zero, Act.put, List.setIfInBounds_toArray, List.set_cons_zero, List.set_cons_succ])
                    refine wpAnyH_ready (rs := [14]) (by kernel_rfl) (by simp) (AllReadyH.cons (o := _) rfl (fun K hK => ?_) AllReadyH.nil)
                    have lb0_108 := b0.lt
                    have lb3_108 := b3.lt
                    go_simp
                    obtain ⟨y108, hV, b5, hb9, szy108⟩ := boxes1 y107 #[.bool false, .slice none 0 0, .slice none 0 0] 27
                    rw [hV]
                    clear hV
                    replace f9 := f9.below hb9
                    replace f8 := f8.below hb9
                    replace b0 := b0.below hb9
                    replace b3 := b3.below hb9
                    replace hT := hT.keep hb9 hlt
                    replace hlt := Nat.lt_of_lt_of_le hlt hb9.size
                    replace G0 := only_below G0 hb9 G0.size
                    clear hb9
                    refine hK.out _ _ ⟨b3.cell 0 _ rfl, b3.cell 1 _ rfl, b3.cell 2 _ rfl⟩ (fun hHeld => ?_)
                    clear hK K
                    (try simp only [List.getElem_toArray, List.getElem_cons_succ, List.getElem_cons_zero, Act.put, List.setIfInBounds_toArray, List.set_cons_zero, List.set_cons_succ])
                    have cb50 := b5.cell 0 _ rfl
                    have yb50 := b5.frozen 0
                    have cb51 := b5.cell 1 _ rfl
                    have yb51 := b5.frozen 1
                    have cb52 := b5.cell 2 _ rfl
                    have yb52 := b5.frozen 2
                    refine wpAnyH_ready (rs := [15]) (by kernel_rfl) (by simp) (AllReadyH.cons (o := _) rfl (fun K hK => ?_) AllReadyH.nil)
                    go_simp
                    clear cb50 yb50 cb51 yb51 cb52 yb52
                    have hg := only_store3 y108 (y107.heap.size) (.bool s5) (.slice A9 n9 c9) (.slice D8 m8 e8)
                    have hB := b5.stored3 (.bool s5) (.slice A9 n9 c9) (.slice D8 m8 e8)
                    generalize hX : (((y108.setCell ⟨y107.heap.size, 0, none⟩ (.bool s5)).setCell ⟨y107.heap.size, 1, none⟩ (.slice A9 n9 c9)).setCell ⟨y107.heap.size, 2, none⟩ (.slice D8 m8 e8)) = X109 at hg hB ⊢
                    clear hX
                    replace f9 := f9.kept b5 (by simp [notInt]) hg
                    replace f8 := f8.kept b5 (by simp [notInt]) hg
                    replace b0 := b0.other hg (by omega)
                    replace b3 := b3.other hg (by omega)
                    replace b5 := hB
                    have hBs := below_only (Below.refl w.heap.size y108) hg (by omega) G0.size
                    replace hT := hT.keep hBs hb
                    replace G0 := only_below G0 hBs (Nat.le_refl _)
                    replace hlt := Nat.lt_of_lt_of_le hlt hg.size
                    clear hg hB hBs
                    refine hK.out _ _ ⟨b3.cell 0 _ rfl, b3.cell 1 _ rfl, b3.cell 2 _ rfl⟩ (fun hHeld => ?_)
                    clear hK K
                    (try simp only [List.getElem_toArray, List.getElem_cons_succ, List.getElem_cons_zero, Act.put, List.setIfInBounds_toArray, List.set_cons_zero, List.set_cons_succ])
                    refine wpAnyH_done (by kernel_rfl) ?_ _
                    refine NoPanic.normal ?_
                    go_wp2_with fail
                    go_meet
                    exact ⟨_, s5, A9, n9, c9, D8, m8, e8, _, _, rfl, b5, f9.ri.more (by omega), f8.more (by omega), b0, hT, G0, hlt, by omega⟩
                  · have lb0_107 := b0.lt
                    have lb3_107 := b3.lt
                    go_simp
                    obtain ⟨y107, hV, b5, hb9, szy107⟩ := boxes1 y106 #[.bool false, .slice none 0 0, .slice none 0 0] 27
                    rw [hV]
                    clear hV
                    replace f9 := f9.below hb9
                    replace f7 := f7.below hb9
                    replace b0 := b0.below hb9
                    replace b3 := b3.below hb9
                    replace hT := hT.keep hb9 hlt
                    replace hlt := Nat.lt_of_lt_of_le hlt hb9.size
                    replace G0 := only_below G0 hb9 G0.size
                    clear hb9
                    refine hK.out _ _ ⟨b3.cell 0 _ rfl, b3.cell 1 _ rfl, b3.cell 2 _ rfl⟩ (fun hHeld => ?_)
                    clear hK K
                    (try simp only [List.getElem_toArray, List.getElem_cons_succ, List.getElem_cons_zero, Act.put, List.setIfInBounds_toArray, List.set_cons_zero, List.set_cons_succ])
                    refine wpAnyH_ready (rs := [12]) (by kernel_rfl) (by simp) (AllReadyH.cons (o := _) rfl (fun K hK => ?_) AllReadyH.nil)
                    go_simp
                    go_at_call 75
                    refine (nats_r f7 r3 (by omega) hlt (by omega)).mono ?_
                    rintro e y108 ⟨D8, m8, e8, rfl, f8, hb9⟩
                    replace f9 := f9.below hb9
                    replace f7 := f7.below hb9
                    replace b0 := b0.below hb9
                    replace b3 := b3.below hb9
                    replace b5 := b5.below hb9
                    replace hT := hT.keep hb9 hlt
                    replace hlt := Nat.lt_of_lt_of_le hlt hb9.size
                    replace G0 := only_below G0 hb9 G0.size
                    clear hb9
                    clear f7
                    go_wp2_with fail
                    refine hK.out _ _ ⟨b3.cell 0 _ rfl, b3.cell 1 _ rfl, b3.cell 2 _ rfl⟩ (fun hHeld => ?_)
                    clear hK K
                    (try simp only [List.getElem_toArray, List.getElem_cons_succ, List.getElem_cons_zero, Act.put, List.setIfInBounds_toArray, List.set_cons_zero, List.set_cons_succ])
                    refine wpAnyH_take (i := 13) (v := ?_) rfl (by kernel_rfl) (by kernel_rfl) (by kernel_rfl) (fun _ _ _ h => h) (Or.inl ⟨by rfl, ?_⟩) (by assumption) ?_
                    rotate_left
                    · (intro w hSw; (try dsimp only at hSw); go_simp; (try with_reducible rfl))
                    (try simp only [List.getElem_toArray, List.getElem_cons_succ, List.getElem_cons_zero, Act.put, List.setIfInBounds_toArray, List.set_cons_zero, List.set_cons_succ])
                    have cb50 := b5.cell 0 _ rfl
                    have yb50 := b5.frozen 0
                    have cb51 := b5.cell 1 _ rfl
                    have yb51 := b5.frozen 1
                    have cb52 := b5.cell 2 _ rfl
                    have yb52 := b5.frozen 2
                    refine wpAnyH_ready (rs := [15]) (by kernel_rfl) (by simp) (AllReadyH.cons (o := _) rfl (fun K hK => ?_) AllReadyH.nil)
                    go_simp
                    clear cb50 yb50 cb51 yb51 cb52 yb52
                    have hg := only_store3 y108 (y106.heap.size) (.bool s5) (.slice A9 n9 c9) (.slice D8 m8 e8)
                    have hB := b5.stored3 (.bool s5) (.slice A9 n9 c9) (.slice D8 m8 e8)
                    generalize hX : (((y108.setCell ⟨y106.heap.size, 0, none⟩ (.bool s5)).setCell ⟨y106.heap.size, 1, none⟩ (.slice A9 n9 c9)).setCell ⟨y106.heap.size, 2, none⟩ (.slice D8 m8 e8)) = X109 at hg hB ⊢
                    clear hX
                    replace f9 := f9.kept b5 (by simp [notInt]) hg
                    replace f8 := f8.kept b5 (by simp [notInt]) hg
                    replace b0 := b0.other hg (by omega)
                    replace b3 := b3.other hg (by omega)
                    replace b5 := hB
                    have hBs := below_only (Below.refl w.heap.size y108) hg (by omega) G0.size
                    replace hT := hT.keep hBs hb
                    replace G0 := only_below G0 hBs (Nat.le_refl _)
                    replace hlt := Nat.lt_of_lt_of_le hlt hg.size
                    clear hg hB hBs
                    refine hK.out _ _ ⟨b3.cell 0 _ rfl, b3.cell 1 _ rfl, b3.cell 2 _ rfl⟩ (fun hHeld => ?_)
                    clear hK K
                    (try simp only [List.getElem_toArray, List.getElem_cons_succ, List.getElem_cons_zero, Act.put, List.setIfInBounds_toArray, List.set_cons_zero, List.set_cons_succ])
                    refine wpAnyH_done (by kernel_rfl) ?_ _
                    refine NoPanic.normal ?_
                    go_wp2_with fail
                    go_meet
                    exact ⟨_, s5, A9, n9, c9, D8, m8, e8, _, _, rfl, b5, f9.ri.more (by omega), f8.more (by omega), b0, hT, G0, hlt, by omega⟩
                · have lb0_106 := b0.lt
                  have lb3_106 := b3.lt
                  go_simp
                  obtain ⟨y106, hV, b5, hb9, szy106⟩ := boxes1 y105 #[.bool false, .slice none 0 0, .slice none 0 0] 27
                  rw [hV]
                  clear hV
                  replace f9 := f9.below hb9
                  replace f7 := f7.below hb9
                  replace b0 := b0.below hb9
                  replace b3 := b3.below hb9
                  replace hT := hT.keep hb9 hlt
                  replace hlt := Nat.lt_of_lt_of_le hlt hb9.size
                  replace G0 := only_below G0 hb9 G0.size
                  clear hb9
                  refine hK.out _ _ ⟨b3.cell 0 _ rfl, b3.cell 1 _ rfl, b3.cell 2 _ rfl⟩ (fun hHeld => ?_)
                  clear hK K
                  (try simp only [List.getElem_toArray, List.getElem_cons_succ, List.getElem_cons_zero, Act.put, List.setIfInBounds_toArray, List.set_cons_zero, List.set_cons_succ])
                  refine wpAnyH_ready (rs := [11]) (by kernel_rfl) (by simp) (AllReadyH.cons (o := _) rfl (fun K hK => ?_) AllReadyH.nil)
                  go_simp
                  go_at_call 45
                  refine (next_any 3 (by omega) (by omega) hT).mono ?_
                  rintro e y107 ⟨r3, rfl, hr3, hT', hg⟩
                  replace f9 := f9.tape hT hg
                  replace f7 := f7.tape hT hg
                  replace b0 := b0.other hg (by omega)
                  replace b3 := b3.other hg (by omega)
                  replace b5 := b5.other hg (by omega)
                  replace hlt := Nat.lt_of_lt_of_le hlt hg.size
                  replace G0 := only_trans G0 hg
                  clear hT
                  have hT := hT'
                  clear hT' hg
                  go_wp2_with fail
                  refine hK.out _ _ ⟨b3.cell 0 _ rfl, b3.cell 1 _ rfl, b3.cell 2 _ rfl⟩ (fun hHeld => ?_)
                  clear hK K
                  (try simp only [List.getElem_toArray, List.getElem_cons_succ, List.getElem_cons_zero, Act.put, List.setIfInBounds_toArray, List.set_cons_zero, List.set_cons_succ])
                  refine wpAnyH_ready (rs := [12]) (by kernel_rfl) (by simp) (AllReadyH.cons (o := _) rfl (fun K hK => ?_) AllReadyH.nil)
                  go_simp
                  go_at_call 75
                  refine (nats_r f7 r3 (by omega) hlt (by omega)).mono ?_
                  rintro e y108 ⟨D8, m8, e8, rfl, f8, hb9⟩
                  replace f9 := f9.below hb9
                  replace f7 := f7.below hb9
                  replace b0 := b0.below hb9
                  replace b3 := b3.below hb9
                  replace b5 := b5.below hb9
                  replace hT := hT.keep hb9 hlt
                  replace hlt := Nat.lt_of_lt_of_le hlt hb9.size
                  replace G0 := only_below G0 hb9 G0.size
                  clear hb9
                  clear f7
                  go_wp2_with fail
                  refine hK.out _ _ ⟨b3.cell 0 _ rfl, b3.cell 1 _ rfl, b3.cell 2 _ rfl⟩ (fun hHeld => ?_)
                  clear hK K
                  (try simp only [List.getElem_toArray, List.getElem_cons_succ, List.getElem_cons_zero, Act.put, List.setIfInBounds_toArray, List.set_cons_zero, List.set_cons_succ])
                  refine wpAnyH_take (i := 13) (v := ?_) rfl (by kernel_rfl) (by kernel_rfl) (by kernel_rfl) (fun _ _ _ h => h) (Or.inl ⟨by rfl, ?_⟩) (by assumption) ?_
                  rotate_left
                  · (intro w hSw; (try dsimp only at hSw); go_simp; (try with_reducible rfl))
                  (try simp only [List.getElem_toArray, List.getElem_cons_succ, List.getElem_cons_zero, Act.put, List.setIfInBounds_toArray, List.set_cons_zero, List.set_cons_succ])
                  have cb50 := b5.cell 0 _ rfl
                  have yb50 := b5.frozen 0
                  have cb51 := b5.cell 1 _ rfl
                  have yb51 := b5.frozen 1
                  have cb52 := b5.cell 2 _ rfl
                  have yb52 := b5.frozen 2
                  refine wpAnyH_ready (rs := [15]) (by kernel_rfl) (by simp) (AllReadyH.cons (o := _) rfl (fun K hK => ?_) AllReadyH.nil)
                  go_simp
                  clear cb50 yb50 cb51 yb51 cb52 yb52
                  have hg := only_store3 y108 (y105.heap.size) (.bool s5) (.slice A9 n9 c9) (.slice D8 m8 e8)
                  have hB := b5.stored3 (.bool s5) (.slice A9 n9 c9) (.slice D8 m8 e8)
                  generalize hX : (((y108.setCell ⟨y105.heap.size, 0, none⟩ (.bool s5)).setCell ⟨y105.heap.size, 1, none⟩ (.slice A9 n9 c9)).setCell ⟨y105.heap.size, 2, none⟩ (.slice D8 m8 e8)) = X109 at hg hB ⊢
                  clear hX
                  replace f9 := f9.kept b5 (by simp [notInt]) hg
                  replace f8 := f8.kept b5 (by simp [notInt]) hg
                  replace b0 := b0.other hg (by omega)
                  replace b3 := b3.other hg (by omega)
                  replace b5 := hB
                  have hBs := below_only (Below.refl w.heap.size y108) hg (by omega) G0.size
                  replace hT := hT.keep hBs hb
                  replace G0 := only_below G0 hBs (Nat.le_refl _)
                  replace hlt := Nat.lt_of_lt_of_le hlt hg.size
                  clear hg hB hBs
                  refine hK.out _ _ ⟨b3.cell 0 _ rfl, b3.cell 1 _ rfl, b3.cell 2 _ rfl⟩ (fun hHeld => ?_)
                  clear hK K
                  (try simp only [List.getElem_toArray, List.getElem_cons_succ, List.getElem_cons_zero, Act.put, List.setIfInBounds_toArray, List.set_cons_zero, List.set_cons_succ])
                  refine wpAnyH_done (by kernel_rfl) ?_ _
                  refine NoPanic.normal ?_
                  go_wp2_with fail
                  go_meet
                  exact ⟨_, s5, A9, n9, c9, D8, m8, e8, _, _, rfl, b5, f9.ri.more (by omega), f8.more (by omega), b0, hT, G0, hlt, by omega⟩
              · have lb0_105 := b0.lt
                have lb3_105 := b3.lt
                go_simp
                obtain ⟨y105, hV, b5, hb9, szy105⟩ := boxes1 y104 #[.bool false, .slice none 0 0, .slice none 0 0] 27
                rw [hV]
                clear hV
                replace fx := fx.below hb9
                replace f9 := f9.below hb9
                replace f6 := f6.below hb9
                replace b0 := b0.below hb9
                replace b3 := b3.below hb9
                replace hT := hT.keep hb9 hlt
                replace hlt := Nat.lt_of_lt_of_le hlt hb9.size
                replace G0 := only_below G0 hb9 G0.size
                clear hb9
                refine hK.out _ _ ⟨b3.cell 0 _ rfl, b3.cell 1 _ rfl, b3.cell 2 _ rfl⟩ (fun hHeld => ?_)
                clear hK K
                (try simp only [List.getElem_toArray, List.getElem_cons_succ, List.getElem_cons_zero, Act.put, List.setIfInBounds_toArray, List.set_cons_zero, List.set_cons_succ])
                refine wpAnyH_ready (rs := [9]) (by kernel_rfl) (by simp) (AllReadyH.cons (o := _) rfl (fun K hK => ?_) AllReadyH.nil)
                go_simp
                go_at_call 59
                refine (nprod_v f6 fx (by omega) (by omega)).mono ?_
                rintro e y106 ⟨A7, n7, c7, rfl, f7, hb9⟩
                replace fx := fx.below hb9
                replace f9 := f9.below hb9
                replace f6 := f6.below hb9
                replace b0 := b0.below hb9
                replace b3 := b3.below hb9
                replace b5 := b5.below hb9
                replace hT := hT.keep hb9 hlt
                replace hlt := Nat.lt_of_lt_of_le hlt hb9.size
                replace G0 := only_below G0 hb9 G0.size
                clear hb9
                clear f6
                clear fx
                go_wp2_with fail
                refine hK.out _ _ ⟨b3.cell 0 _ rfl, b3.cell 1 _ rfl, b3.cell 2 _ rfl⟩ (fun hHeld => ?_)
                clear hK K
                (try simp only [List.getElem_toArray, List.getElem_cons_succ, List.getElem_cons_zero, Act.put, List.setIfInBounds_toArray, List.set_cons_zero, List.set_cons_succ])
                refine wpAnyH_ready (rs := [11]) (by kernel_rfl) (by simp) (AllReadyH.cons (o := _) rfl (fun K hK => ?_) AllReadyH.nil)
                go_simp
                go_at_call 45
                refine (next_any 3 (by omega) (by omega) hT).mono ?_
                rintro e y107 ⟨r3, rfl, hr3, hT', hg⟩
                replace f9 := f9.tape hT hg
                replace f7 := f7.tape hT hg
                replace b0 := b0.other hg (by omega)
                replace b3 := b3.other hg (by omega)
                replace b5 := b5.other hg (by omega)
                replace hlt := Nat.lt_of_lt_of_le hlt hg.size
                replace G0 := only_trans G0 hg
                clear hT
                have hT := hT'
                clear hT' hg
                go_wp2_with fail
                refine hK.out _ _ ⟨b3.cell 0 _ rfl, b3.cell 1 _ rfl, b3.cell 2 _ rfl⟩ (fun hHeld => ?_)
                clear hK K
                (try simp only [List.getElem_toArray, List.getElem_cons_succ, List.getElem_cons_zero, Act.put, List.setIfInBounds_toArray, List.set_cons_zero, List.set_cons_succ])
                refine wpAnyH_ready (rs := [12]) (by kernel_rfl) (by simp) (AllReadyH.cons (o := _) rfl (fun K hK => ?_) AllReadyH.nil)
                go_simp
                go_at_call 75
                refine (nats_r f7 r3 (by omega) hlt (by omega)).mono ?_
                rintro e y108 ⟨D8, m8, e8, rfl, f8, hb9⟩
                replace f9 := f9.below hb9
                replace f7 := f7.below hb9
                replace b0 := b0.below hb9
                replace b3 := b3.below hb9
                replace b5 := b5.below hb9
                replace hT := hT.keep hb9 hlt
                replace hlt := Nat.lt_of_lt_of_le hlt hb9.size
                replace G0 := only_below G0 hb9 G0.size
                clear hb9
                clear f7
                go_wp2_with fail
                refine hK.out _ _ ⟨b3.cell 0 _ rfl, b3.cell 1 _ rfl, b3.cell 2 _ rfl⟩ (fun hHeld => ?_)
                clear hK K
                (try simp only [List.getElem_toArray, List.getElem_cons_succ, List.getElem_cons_zero, Act.put, List.setIfInBounds_toArray, List.set_cons_zero, List.set_cons_succ])
                refine wpAnyH_take (i := 13) (v := ?_) rfl (by kernel_rfl) (by kernel_rfl) (by kernel_rfl) (fun _ _ _ h => h) (Or.inl ⟨by rfl, ?_⟩) (by assumption) ?_
                rotate_left
                · (intro w hSw; (try dsimp only at hSw); go_simp; (try with_reducible rfl))
                (try simp only [List.getElem_toArray, List.getElem_cons_succ, List.getElem_cons_zero, Act.put, List.setIfInBounds_toArray, List.set_cons_zero, List.set_cons_succ])
                have cb50 := b5.cell 0 _ rfl
                have yb50 := b5.frozen 0
                have cb51 := b5.cell 1 _ rfl
                have yb51 := b5.frozen 1
                have cb52 := b5.cell 2 _ rfl
                have yb52 := b5.frozen 2
                refine wpAnyH_ready (rs := [15]) (by kernel_rfl) (by simp) (AllReadyH.cons (o := _) rfl (fun K hK => ?_) AllReadyH.nil)
                go_simp
                clear cb50 yb50 cb51 yb51 cb52 yb52
                have hg := only_store3 y108 (y104.heap.size) (.bool s5) (.slice A9 n9 c9) (.slice D8 m8 e8)
                have hB := b5.stored3 (.bool s5) (.slice A9 n9 c9) (.slice D8 m8 e8)
                generalize hX : (((y108.setCell ⟨y104.heap.size, 0, none⟩ (.bool s5)).setCell ⟨y104.heap.size, 1, none⟩ (.slice A9 n9 c9)).setCell ⟨y104.heap.size, 2, none⟩ (.slice D8 m8 e8)) = X109 at hg hB ⊢
                clear hX
                replace f9 := f9.kept b5 (by simp [notInt]) hg
                replace f8 := f8.kept b5 (by simp [notInt]) hg
                replace b0 := b0.other hg (by omega)
                replace b3 := b3.other hg (by omega)
                replace b5 := hB
                have hBs := below_only (Below.refl w.heap.size y108) hg (by omega) G0.size
                replace hT := hT.keep hBs hb
                replace G0 := only_below G0 hBs (Nat.le_refl _)
                replace hlt := Nat.lt_of_lt_of_le hlt hg.size
                clear hg hB hBs
                refine hK.out _ _ ⟨b3.cell 0 _ rfl, b3.cell 1 _ rfl, b3.cell 2 _ rfl⟩ (fun hHeld => ?_)
                clear hK K
                (try simp only [List.getElem_toArray, List.getElem_cons_succ, List.getElem_cons_zero, Act.put, List.setIfInBounds_toArray, List.set_cons_zero, List.set_cons_succ])
                refine wpAnyH_done (by kernel_rfl) ?_ _
                refine NoPanic.normal ?_
                go_wp2_with fail
                go_meet
                exact ⟨_, s5, A9, n9, c9, D8, m8, e8, _, _, rfl, b5, f9.ri.more (by omega), f8.more (by omega), b0, hT, G0, hlt, by omega⟩
            · have lb0_104 := b0.lt
              have lb3_104 := b3.lt
              go_simp
              obtain ⟨y104, hV, b5, hb9, szy104⟩ := boxes1 y103 #[.bool false, .slice none 0 0, .slice none 0 0] 27
              rw [hV]
              clear hV
              replace fq := fq.below hb9
              replace fx := fx.below hb9
              replace f9 := f9.below hb9
              replace b0 := b0.below hb9
              replace b3 := b3.below hb9
              replace hT := hT.keep hb9 hlt
              replace hlt := Nat.lt_of_lt_of_le hlt hb9.size
              replace G0 := only_below G0 hb9 G0.size
              clear hb9
              refine hK.out _ _ ⟨b3.cell 0 _ rfl, b3.cell 1 _ rfl, b3.cell 2 _ rfl⟩ (fun hHeld => ?_)
              clear hK K
              (try simp only [List.getElem_toArray, List.getElem_cons_succ, List.getElem_cons_zero, Act.put, List.setIfInBounds_toArray, List.set_cons_zero, List.set_cons_succ])
              refine wpAnyH_ready (rs := [7]) (by kernel_rfl) (by simp) (AllReadyH.cons (o := _) rfl (fun K hK => ?_) AllReadyH.nil)
              go_simp
              go_at_call 29
              refine (nden_v fq).mono ?_
              rintro e y105 ⟨A6, n6, c6, rfl, f6, hb9⟩
              replace fq := fq.below hb9
              replace fx := fx.below hb9
              replace f9 := f9.below hb9
              replace b0 := b0.below hb9
              replace b3 := b3.below hb9
              replace b5 := b5.below hb9
              replace hT := hT.keep hb9 hlt
              replace hlt := Nat.lt_of_lt_of_le hlt hb9.size
              replace G0 := only_below G0 hb9 G0.size
              clear hb9
              clear fq
              go_wp2_with fail
              refine hK.out _ _ ⟨b3.cell 0 _ rfl, b3.cell 1 _ rfl, b3.cell 2 _ rfl⟩ (fun hHeld => ?_)
              clear hK K
              (try simp only [List.getElem_toArray, List.getElem_cons_succ, List.getElem_cons_zero, Act.put, List.setIfInBounds_toArray, List.set_cons_zero, List.set_cons_succ])
              refine wpAnyH_ready (rs := [9]) (by kernel_rfl) (by simp) (AllReadyH.cons (o := _) rfl (fun K hK => ?_) AllReadyH.nil)
              go_simp
              go_at_call 59
              refine (nprod_v f6 fx (by omega) (by omega)).mono ?_
              rintro e y106 ⟨A7, n7, c7, rfl, f7, hb9⟩
              replace fx := fx.below hb9
              replace f9 := f9.below hb9
              replace f6 := f6.below hb9
              replace b0 := b0.below hb9
              replace b3 := b3.below hb9
              replace b5 := b5.below hb9
              replace hT := hT.keep hb9 hlt
              replace hlt := Nat.lt_of_lt_of_le hlt hb9.size
              replace G0 := only_below G0 hb9 G0.size
              clear hb9
              clear f6
              clear fx
              go_wp2_with fail
              refine hK.out _ _ ⟨b3.cell 0 _ rfl, b3.cell 1 _ rfl, b3.cell 2 _ rfl⟩ (fun hHeld => ?_)
              clear hK K
              (try simp only [List.getElem_toArray, List.getElem_cons_succ, List.getElem_cons_zero, Act.put, List.setIfInBounds_toArray, List.set_cons_zero, List.set_cons_succ])
              refine wpAnyH_ready (rs := [11]) (by kernel_rfl) (by simp) (AllReadyH.cons (o := _) rfl (fun K hK => ?_) AllReadyH.nil)
              go_simp
              go_at_call 45
              refine (next_any 3 (by omega) (by omega) hT).mono ?_
              rintro e y107 ⟨r3, rfl, hr3, hT', hg⟩
              replace f9 := f9.tape hT hg
              replace f7 := f7.tape hT hg
              replace b0 := b0.other hg (by omega)
              replace b3 := b3.other hg (by omega)
              replace b5 := b5.other hg (by omega)
              replace hlt := Nat.lt_of_lt_of_le hlt hg.size
              replace G0 := only_trans G0 hg
              clear hT
              have hT := hT'
              clear hT' hg
              go_wp2_with fail
              refine hK.out _ _ ⟨b3.cell 0 _ rfl, b3.cell 1 _ rfl, b3.cell 2 _ rfl⟩ (fun hHeld => ?_)
              clear hK K
              (try simp only [List.getElem_toArray, List.getElem_cons_succ, List.getElem_cons_zero, Act.put, List.setIfInBounds_toArray, List.set_cons_zero, List.set_cons_succ])
              refine wpAnyH_ready (rs := [12]) (by kernel_rfl) (by simp) (AllReadyH.cons (o := _) rfl (fun K hK => ?_) AllReadyH.nil)
              go_simp
              go_at_call 75
              refine (nats_r f7 r3 (by omega) hlt (by omega)).mono ?_
              rintro e y108 ⟨D8, m8, e8, rfl, f8, hb9⟩
              replace f9 := f9.below hb9
              replace f7 := f7.below hb9
              replace b0 := b0.below hb9
              replace b3 := b3.below hb9
              replace b5 := b5.below hb9
              replace hT := hT.keep hb9 hlt
              replace hlt := Nat.lt_of_lt_of_le hlt hb9.size
              replace G0 := only_below G0 hb9 G0.size
              clear hb9
              clear f7
              go_wp2_with fail
              refine hK.out _ _ ⟨b3.cell 0 _ rfl, b3.cell 1 _ rfl, b3.cell 2 _ rfl⟩ (fun hHeld => ?_)
              clear hK K
              (try simp only [List.getElem_toArray, List.getElem_cons_succ, List.getElem_cons_zero, Act.put, List.setIfInBounds_toArray, List.set_cons_zero, List.set_cons_succ])
              refine wpAnyH_take (i := 13) (v := ?_) rfl (by kernel_rfl) (by kernel_rfl) (by kernel_rfl) (fun _ _ _ h => h) (Or.inl ⟨by rfl, ?_⟩) (by assumption) ?_
              rotate_left
              · (intro w hSw; (try dsimp only at hSw); go_simp; (try with_reducible rfl))
              (try simp only [List.getElem_toArray, List.getElem_cons_succ, List.getElem_cons_zero, Act.put, List.setIfInBounds_toArray, List.set_cons_zero, List.set_cons_succ])
              have cb50 := b5.cell 0 _ rfl
              have yb50 := b5.frozen 0
              have cb51 := b5.cell 1 _ rfl
              have yb51 := b5.frozen 1
              have cb52 := b5.cell 2 _ rfl
              have yb52 := b5.frozen 2
              refine wpAnyH_ready (rs := [15]) (by kernel_rfl) (by simp) (AllReadyH.cons (o := _) rfl (fun K hK => ?_) AllReadyH.nil)
              go_simp
              clear cb50 yb50 cb51 yb51 cb52 yb52
              have hg := only_store3 y108 (y103.heap.size) (.bool s5) (.slice A9 n9 c9) (.slice D8 m8 e8)
              have hB := b5.stored3 (.bool s5) (.slice A9 n9 c9) (.slice D8 m8 e8)
              generalize hX : (((y108.setCell ⟨y103.heap.size, 0, none⟩ (.bool s5)).setCell ⟨y103.heap.size, 1, none⟩ (.slice A9 n9 c9)).setCell ⟨y103.heap.size, 2, none⟩ (.slice D8 m8 e8)) = X109 at hg hB ⊢
              clear hX
              replace f9 := f9.kept b5 (by simp [notInt]) hg
              replace f8 := f8.kept b5 (by simp [notInt]) hg
              replace b0 := b0.other hg (by omega)
              replace b3 := b3.other hg (by omega)
              replace b5 := hB
              have hBs := below_only (Below.refl w.heap.size y108) hg (by omega) G0.size
              replace hT := hT.keep hBs hb
              replace G0 := only_below G0 hBs (Nat.le_refl _)
              replace hlt := Nat.lt_of_lt_of_le hlt hg.size
              clear hg hB hBs
              refine hK.out _ _ ⟨b3.cell 0 _ rfl, b3.cell 1 _ rfl, b3.cell 2 _ rfl⟩ (fun hHeld => ?_)
              clear hK K
              (try simp only [List.getElem_toArray, List.getElem_cons_succ, List.getElem_cons_zero, Act.put, List.setIfInBounds_toArray, List.set_cons_zero, List.set_cons_succ])
              refine wpAnyH_done (by kernel_rfl) ?_ _
              refine NoPanic.normal ?_
              go_wp2_with fail
              go_meet
              exact ⟨_, s5, A9, n9, c9, D8, m8, e8, _, _, rfl, b5, f9.ri.more (by omega), f8.more (by omega), b0, hT, G0, hlt, by omega⟩
          · have lb0_103 := b0.lt
            have lb3_103 := b3.lt
            go_simp
            obtain ⟨y103, hV, b5, hb9, szy103⟩ := boxes1 y102 #[.bool false, .slice none 0 0, .slice none 0 0] 27
            rw [hV]
            clear hV
            replace fq := fq.below hb9
            replace fx := fx.below hb9
            replace f5 := f5.below hb9
            replace b0 := b0.below hb9
            replace b3 := b3.below hb9
            replace hT := hT.keep hb9 hlt
            replace hlt := Nat.lt_of_lt_of_le hlt hb9.size
            replace G0 := only_below G0 hb9 G0.size
            clear hb9
            refine hK.out _ _ ⟨b3.cell 0 _ rfl, b3.cell 1 _ rfl, b3.cell 2 _ rfl⟩ (fun hHeld => ?_)
            clear hK K
            (try simp only [List.getElem_toArray, List.getElem_cons_succ, List.getElem_cons_zero, Act.put, List.setIfInBounds_toArray, List.set_cons_zero, List.set_cons_succ])
            refine wpAnyH_ready (rs := [5]) (by kernel_rfl) (by simp) (AllReadyH.cons (o := _) rfl (fun K hK => ?_) AllReadyH.nil)
            go_simp
            go_at_call 42
            refine (toI_v f5 (by omega)).mono ?_
            rintro e y104 ⟨A9, n9, c9, rfl, f9, hb9⟩
            replace fq := fq.below hb9
            replace fx := fx.below hb9
            replace f5 := f5.below hb9
            replace b0 := b0.below hb9
            replace b3 := b3.below hb9
            replace b5 := b5.below hb9
            replace hT := hT.keep hb9 hlt
            replace hlt := Nat.lt_of_lt_of_le hlt hb9.size
            replace G0 := only_below G0 hb9 G0.size
            clear hb9
            clear f5
            go_wp2_with fail
            refine hK.out _ _ ⟨b3.cell 0 _ rfl, b3.cell 1 _ rfl, b3.cell 2 _ rfl⟩ (fun hHeld => ?_)
            clear hK K
            (try simp only [List.getElem_toArray, List.getElem_cons_succ, List.getElem_cons_zero, Act.put, List.setIfInBounds_toArray, List.set_cons_zero, List.set_cons_succ])
            refine wpAnyH_ready (rs := [7]) (by kernel_rfl) (by simp) (AllReadyH.cons (o := _) rfl (fun K hK => ?_) AllReadyH.nil)
            go_simp
            go_at_call 29
            refine (nden_v fq).mono ?_
            rintro e y105 ⟨A6, n6, c6, rfl, f6, hb9⟩
            replace fq := fq.below hb9
            replace fx := fx.below hb9
            replace f9 := f9.below hb9
            replace b0 := b0.below hb9
            replace b3 := b3.below hb9
            replace b5 := b5.below hb9
            replace hT := hT.keep hb9 hlt
            replace hlt := Nat.lt_of_lt_of_le hlt hb9.size
            replace G0 := only_below G0 hb9 G0.size
            clear hb9
            clear fq
            go_wp2_with fail
            refine hK.out _ _ ⟨b3.cell 0 _ rfl, b3.cell 1 _ rfl, b3.cell 2 _ rfl⟩ (fun hHeld => ?_)
            clear hK K
            (try simp only [List.getElem_toArray, List.getElem_cons_succ, List.getElem_cons_zero, Act.put, List.setIfInBounds_toArray, List.set_cons_zero, List.set_cons_succ])
            refine wpAnyH_ready (rs := [9]) (by kernel_rfl) (by simp) (AllReadyH.cons (o := _) rfl (fun K hK => ?_) AllReadyH.nil)
            go_simp
            go_at_call 59
            refine (nprod_v f6 fx (by omega) (by omega)).mono ?_
            rintro e y106 ⟨A7, n7, c7, rfl, f7, hb9⟩
            replace fx := fx.below hb9
            replace f9 := f9.below hb9
            replace f6 := f6.below hb9
            replace b0 := b0.below hb9
            replace b3 := b3.below hb9
            replace b5 := b5.below hb9
            replace hT := hT.keep hb9 hlt
            replace hlt := Nat.lt_of_lt_of_le hlt hb9.size
            replace G0 := only_below G0 hb9 G0.size
            clear hb9
            clear f6
            clear fx
            go_wp2_with fail
            refine hK.out _ _ ⟨b3.cell 0 _ rfl, b3.cell 1 _ rfl, b3.cell 2 _ rfl⟩ (fun hHeld => ?_)
            clear hK K
            (try simp only [List.getElem_toArray, List.getElem_cons_succ, List.getElem_cons_zero, Act.put, List.setIfInBounds_toArray, List.set_cons_zero, List.set_cons_succ])
            refine wpAnyH_ready (rs := [11]) (by kernel_rfl) (by simp) (AllReadyH.cons (o := _) rfl (fun K hK => ?_) AllReadyH.nil)
            go_simp
            go_at_call 45
            refine (next_any 3 (by omega) (by omega) hT).mono ?_
            rintro e y107 ⟨r3, rfl, hr3, hT', hg⟩
            replace f9 := f9.tape hT hg
            replace f7 := f7.tape hT hg
            replace b0 := b0.other hg (by omega)
            replace b3 := b3.other hg (by omega)
            replace b5 := b5.other hg (by omega)
            replace hlt := Nat.lt_of_lt_of_le hlt hg.size
            replace G0 := only_trans G0 hg
            clear hT
            have hT := hT'
            clear hT' hg
            go_wp2_with fail
            refine hK.out _ _ ⟨b3.cell 0 _ rfl, b3.cell 1 _ rfl, b3.cell 2 _ rfl⟩ (fun hHeld => ?_)
            clear hK K
            (try simp only [List.getElem_toArray, List.getElem_cons_succ, List.getElem_cons_zero, Act.put, List.setIfInBounds_toArray, List.set_cons_zero, List.set_cons_succ])
            refine wpAnyH_ready (rs := [12]) (by kernel_rfl) (by simp) (AllReadyH.cons (o := _) rfl (fun K hK => ?_) AllReadyH.nil)
            go_simp
            go_at_call 75
            refine (nats_r f7 r3 (by omega) hlt (by omega)).mono ?_
            rintro e y108 ⟨D8, m8, e8, rfl, f8, hb9⟩
            replace f9 := f9.below hb9
            replace f7 := f7.below hb9
            replace b0 := b0.below hb9
            replace b3 := b3.below hb9
            replace b5 := b5.below hb9
            replace hT := hT.keep hb9 hlt
            replace hlt := Nat.lt_of_lt_of_le hlt hb9.size
            replace G0 := only_below G0 hb9 G0.size
            clear hb9
            clear f7
            go_wp2_with fail
            refine hK.out _ _ ⟨b3.cell 0 _ rfl, b3.cell 1 _ rfl, b3.cell 2 _ rfl⟩ (fun hHeld => ?_)
            clear hK K
            (try simp only [List.getElem_toArray, List.getElem_cons_succ, List.getElem_cons_zero, Act.put, List.setIfInBounds_toArray, List.set_cons_zero, List.set_cons_succ])
            refine wpAnyH_take (i := 13) (v := ?_) rfl (by kernel_rfl) (by kernel_rfl) (by kernel_rfl) (fun _ _ _ h => h) (Or.inl ⟨by rfl, ?_⟩) (by assumption) ?_
            rotate_left
            · (intro w hSw; (try dsimp only at hSw); go_simp; (try with_reducible rfl))
            (try simp only [List.getElem_toArray, List.getElem_cons_succ, List.getElem_cons_zero, Act.put, List.setIfInBounds_toArray, List.set_cons_zero, List.set_cons_succ])
            have cb50 := b5.cell 0 _ rfl
            have yb50 := b5.frozen 0
            have cb51 := b5.cell 1 _ rfl
            have yb51 := b5.frozen 1
            have cb52 := b5.cell 2 _ rfl
            have yb52 := b5.frozen 2
            refine wpAnyH_ready (rs := [15]) (by kernel_rfl) (by simp) (AllReadyH.cons (o := _) rfl (fun K hK => ?_) AllReadyH.nil)
            go_simp
            clear cb50 yb50 cb51 yb51 cb52 yb52
            have hg := only_store3 y108 (y102.heap.size) (.bool s5) (.slice A9 n9 c9) (.slice D8 m8 e8)
            have hB := b5.stored3 (.bool s5) (.slice A9 n9 c9) (.slice D8 m8 e8)
            generalize hX : (((y108.setCell ⟨y102.heap.size, 0, none⟩ (.bool s5)).setCell ⟨y102.heap.size, 1, none⟩ (.slice A9 n9 c9)).setCell ⟨y102.heap.size, 2, none⟩ (.slice D8 m8 e8)) = X109 at hg hB ⊢
            clear hX
            replace f9 := f9.kept b5 (by simp [notInt]) hg
            replace f8 := f8.kept b5 (by simp [notInt]) hg
            replace b0 := b0.other hg (by omega)
            replace b3 := b3.other hg (by omega)
            replace b5 := hB
            have hBs := below_only (Below.refl w.heap.size y108) hg (by omega) G0.size
            replace hT := hT.keep hBs hb
            replace G0 := only_below G0 hBs (Nat.le_refl _)
            replace hlt := Nat.lt_of_lt_of_le hlt hg.size
            clear hg hB hBs
            refine hK.out _ _ ⟨b3.cell 0 _ rfl, b3.cell 1 _ rfl, b3.cell 2 _ rfl⟩ (fun hHeld => ?_)
            clear hK K
            (try simp only [List.getElem_toArray, List.getElem_cons_succ, List.getElem_cons_zero, Act.put, List.setIfInBounds_toArray, List.set_cons_zero, List.set_cons_succ])
            refine wpAnyH_done (by kernel_rfl) ?_ _
            refine NoPanic.normal ?_
            go_wp2_with fail
            go_meet
            exact ⟨_, s5, A9, n9, c9, D8, m8, e8, _, _, rfl, b5, f9.ri.more (by omega), f8.more (by omega), b0, hT, G0, hlt, by omega⟩
        · have lb0_102 := b0.lt
          have lb3_102 := b3.lt
          go_simp
          obtain ⟨y102, hV, b5, hb9, szy102⟩ := boxes1 y101 #[.bool false, .slice none 0 0, .slice none 0 0] 27
          rw [hV]
          clear hV
          replace fq := fq.below hb9
          replace fx := fx.below hb9
          replace f4 := f4.below hb9
          replace b0 := b0.below hb9
          replace b3 := b3.below hb9
          replace hT := hT.keep hb9 hlt
          replace hlt := Nat.lt_of_lt_of_le hlt hb9.size
          replace G0 := only_below G0 hb9 G0.size
          clear hb9
          refine hK.out _ _ ⟨b3.cell 0 _ rfl, b3.cell 1 _ rfl, b3.cell 2 _ rfl⟩ (fun hHeld => ?_)
          clear hK K
          (try simp only [List.getElem_toArray, List.getElem_cons_succ, List.getElem_cons_zero, Act.put, List.setIfInBounds_toArray, List.set_cons_zero, List.set_cons_succ])
          refine wpAnyH_ready (rs := [4]) (by kernel_rfl) (by simp) (AllReadyH.cons (o := _) rfl (fun K hK => ?_) AllReadyH.nil)
          go_simp
          go_at_call 58
          refine (nmul_v fq.1 f4 (by omega) (by omega)).mono ?_
          rintro e y103 ⟨s5, A5, n5, c5, rfl, f5, hb9⟩
          replace fq := fq.below hb9
          replace fx := fx.below hb9
          replace f4 := f4.below hb9
          replace b0 := b0.below hb9
          replace b3 := b3.below hb9
          replace b5 := b5.below hb9
          replace hT := hT.keep hb9 hlt
          replace hlt := Nat.lt_of_lt_of_le hlt hb9.size
          replace G0 := only_below G0 hb9 G0.size
          clear hb9
          clear f4
          go_wp2_with fail
          refine hK.out _ _ ⟨b3.cell 0 _ rfl, b3.cell 1 _ rfl, b3.cell 2 _ rfl⟩ (fun hHeld => ?_)
          clear hK K
          (try simp only [List.getElem_toArray, List.getElem_cons_succ, List.getElem_cons_zero, Act.put, List.setIfInBounds_toArray, List.set_cons_zero, List.set_cons_succ])
          refine wpAnyH_ready (rs := [5]) (by kernel_rfl) (by simp) (AllReadyH.cons (o := _) rfl (fun K hK => ?_) AllReadyH.nil)
          go_simp
          go_at_call 42
          refine (toI_v f5 (by omega)).mono ?_
          rintro e y104 ⟨A9, n9, c9, rfl, f9, hb9⟩
          replace fq := fq.below hb9
          replace fx := fx.below hb9
          replace f5 := f5.below hb9
          replace b0 := b0.below hb9
          replace b3 := b3.below hb9
          replace b5 := b5.below hb9
          replace hT := hT.keep hb9 hlt
          replace hlt := Nat.lt_of_lt_of_le hlt hb9.size
          replace G0 := only_below G0 hb9 G0.size
          clear hb9
          clear f5
          go_wp2_with fail
          refine hK.out _ _ ⟨b3.cell 0 _ rfl, b3.cell 1 _ rfl, b3.cell 2 _ rfl⟩ (fun hHeld => ?_)
          clear hK K
          (try simp only [List.getElem_toArray, List.getElem_cons_succ, List.getElem_cons_zero, Act.put, List.setIfInBounds_toArray, List.set_cons_zero, List.set_cons_succ])
          refine wpAnyH_ready (rs := [7]) (by kernel_rfl) (by simp) (AllReadyH.cons (o := _) rfl (fun K hK => ?_) AllReadyH.nil)
          go_simp
          go_at_call 29
          refine (nden_v fq).mono ?_
          rintro e y105 ⟨A6, n6, c6, rfl, f6, hb9⟩
          replace fq := fq.below hb9
          replace fx := fx.below hb9
          replace f9 := f9.below hb9
          replace b0 := b0.below hb9
          replace b3 := b3.below hb9
          replace b5 := b5.below hb9
          replace hT := hT.keep hb9 hlt
          replace hlt := Nat.lt_of_lt_of_le hlt hb9.size
          replace G0 := only_below G0 hb9 G0.size
          clear hb9
          clear fq
          go_wp2_with fail
          refine hK.out _ _ ⟨b3.cell 0 _ rfl, b3.cell 1 _ rfl, b3.cell 2 _ rfl⟩ (fun hHeld => ?_)
          clear hK K
          (try simp only [List.getElem_toArray, List.getElem_cons_succ, List.getElem_cons_zero, Act.put, List.setIfInBounds_toArray, List.set_cons_zero, List.set_cons_succ])
          refine wpAnyH_ready (rs := [9]) (by kernel_rfl) (by simp) (AllReadyH.cons (o := _) rfl (fun K hK => ?_) AllReadyH.nil)
          go_simp
          go_at_call 59
          refine (nprod_v f6 fx (by omega) (by omega)).mono ?_
          rintro e y106 ⟨A7, n7, c7, rfl, f7, hb9⟩
          replace fx := fx.below hb9
          replace f9 := f9.below hb9
          replace f6 := f6.below hb9
          replace b0 := b0.below hb9
          replace b3 := b3.below hb9
          replace b5 := b5.below hb9
          replace hT := hT.keep hb9 hlt
          replace hlt := Nat.lt_of_lt_of_le hlt hb9.size
          replace G0 := only_below G0 hb9 G0.size
          clear hb9
          clear f6
          clear fx
          go_wp2_with fail
          refine hK.out _ _ ⟨b3.cell 0 _ rfl, b3.cell 1 _ rfl, b3.cell 2 _ rfl⟩ (fun hHeld => ?_)
          clear hK K
          (try simp only [List.getElem_toArray, List.getElem_cons_succ, List.getElem_cons_zero, Act.put, List.setIfInBounds_toArray, List.set_cons_zero, List.set_cons_succ])
          refine wpAnyH_ready (rs := [11]) (by kernel_rfl) (by simp) (AllReadyH.cons (o := _) rfl (fun K hK => ?_) AllReadyH.nil)
          go_simp
          go_at_call 45
          refine (next_any 3 (by omega) (by omega) hT).mono ?_
          rintro e y107 ⟨r3, rfl, hr3, hT', hg⟩
          replace f9 := f9.tape hT hg
          replace f7 := f7.tape hT hg
          replace b0 := b0.other hg (by omega)
          replace b3 := b3.other hg (by omega)
          replace b5 := b5.other hg (by omega)
          replace hlt := Nat.lt_of_lt_of_le hlt hg.size
          replace G0 := only_trans G0 hg
          clear hT
          have hT := hT'
          clear hT' hg
          go_wp2_with fail
          refine hK.out _ _ ⟨b3.cell 0 _ rfl, b3.cell 1 _ rfl, b3.cell 2 _ rfl⟩ (fun hHeld => ?_)
          clear hK K
          (try simp only [List.getElem_toArray, List.getElem_cons_succ, List.getElem_cons_zero, Act.put, List.setIfInBounds_toArray, List.set_cons_zero, List.set_cons_succ])
          refine wpAnyH_ready (rs := [12]) (by kernel_rfl) (by simp) (AllReadyH.cons (o := _) rfl (fun K hK => ?_) AllReadyH.nil)
          go_simp
          go_at_call 75
          refine (nats_r f7 r3 (by omega) hlt (by omega)).mono ?_
          rintro e y108 ⟨D8, m8, e8, rfl, f8, hb9⟩
          replace f9 := f9.below hb9
          replace f7 := f7.below hb9
          replace b0 := b0.below hb9
          replace b3 := b3.below hb9
          replace b5 := b5.below hb9
          replace hT := hT.keep hb9 hlt
          replace hlt := Nat.lt_of_lt_of_le hlt hb9.size
          replace G0 := only_below G0 hb9 G0.size
          clear hb9
          clear f7
          go_wp2_with fail
          refine hK.out _ _ ⟨b3.cell 0 _ rfl, b3.cell 1 _ rfl, b3.cell 2 _ rfl⟩ (fun hHeld => ?_)
          clear hK K
          (try simp only [List.getElem_toArray, List.getElem_cons_succ, List.getElem_cons_zero, Act.put, List.setIfInBounds_toArray, List.set_cons_zero, List.set_cons_succ])
          refine wpAnyH_take (i := 13) (v := ?_) rfl (by kernel_rfl) (by kernel_rfl) (by kernel_rfl) (fun _ _ _ h => h) (Or.inl ⟨by rfl, ?_⟩) (by assumption) ?_
          rotate_left
          · (intro w hSw; (try dsimp only at hSw); go_simp; (try with_reducible rfl))
          (try simp only [List.getElem_toArray, List.getElem_cons_succ, List.getElem_cons_zero, Act.put, List.setIfInBounds_toArray, List.set_cons_zero, List.set_cons_succ])
          have cb50 := b5.cell 0 _ rfl
          have yb50 := b5.frozen 0
          have cb51 := b5.cell 1 _ rfl
          have yb51 := b5.frozen 1
          have cb52 := b5.cell 2 _ rfl
          have yb52 := b5.frozen 2
          refine wpAnyH_ready (rs := [15]) (by kernel_rfl) (by simp) (AllReadyH.cons (o := _) rfl (fun K hK => ?_) AllReadyH.nil)
          go_simp
          clear cb50 yb50 cb51 yb51 cb52 yb52
          have hg := only_store3 y108 (y101.heap.size) (.bool s5) (.slice A9 n9 c9) (.slice D8 m8 e8)
          have hB := b5.stored3 (.bool s5) (.slice A9 n9 c9) (.slice D8 m8 e8)
          generalize hX : (((y108.setCell ⟨y101.heap.size, 0, none⟩ (.bool s5)).setCell ⟨y101.heap.size, 1, none⟩ (.slice A9 n9 c9)).setCell ⟨y101.heap.size, 2, none⟩ (.slice D8 m8 e8)) = X109 at hg hB ⊢
          clear hX
          replace f9 := f9.kept b5 (by simp [notInt]) hg
          replace f8 := f8.kept b5 (by simp [notInt]) hg
          replace b0 := b0.other hg (by omega)
          replace b3 := b3.other hg (by omega)
          replace b5 := hB
          have hBs := below_only (Below.refl w.heap.size y108) hg (by omega) G0.size
          replace hT := hT.keep hBs hb
          replace G0 := only_below G0 hBs (Nat.le_refl _)
          replace hlt := Nat.lt_of_lt_of_le hlt hg.size
          clear hg hB hBs
          refine hK.out _ _ ⟨b3.cell 0 _ rfl, b3.cell 1 _ rfl, b3.cell 2 _ rfl⟩ (fun hHeld => ?_)
          clear hK K
          (try simp only [List.getElem_toArray, List.getElem_cons_succ, List.getElem_cons_zero, Act.put, List.setIfInBounds_toArray, List.set_cons_zero, List.set_cons_succ])
          refine wpAnyH_done (by kernel_rfl) ?_ _
          refine NoPanic.normal ?_
          go_wp2_with fail
          go_meet
          exact ⟨_, s5, A9, n9, c9, D8, m8, e8, _, _, rfl, b5, f9.ri.more (by omega), f8.more (by omega), b0, hT, G0, hlt, by omega⟩
      · have lb0_101 := b0.lt
        have lb3_101 := b3.lt
        go_simp
        obtain ⟨y101, hV, b5, hb9, szy101⟩ := boxes1 v100 #[.bool false, .slice none 0 0, .slice none 0 0] 27
        rw [hV]
        clear hV
        replace fq := fq.below hb9
        replace fx := fx.below hb9
        replace b0 := b0.below hb9
        replace b3 := b3.below hb9
        replace hT := hT.keep hb9 hlt
        replace hlt := Nat.lt_of_lt_of_le hlt hb9.size
        replace G0 := only_below G0 hb9 G0.size
        clear hb9
        refine hK.out _ _ ⟨b3.cell 0 _ rfl, b3.cell 1 _ rfl, b3.cell 2 _ rfl⟩ (fun hHeld => ?_)
        clear hK K
        (try simp only [List.getElem_toArray, List.getElem_cons_succ, List.getElem_cons_zero, Act.put, List.setIfInBounds_toArray, List.set_cons_zero, List.set_cons_succ])
        refine wpAnyH_ready (rs := [3]) (by kernel_rfl) (by simp) (AllReadyH.cons (o := _) rfl (fun K hK => ?_) AllReadyH.nil)
        go_simp
        go_at_call 56
        refine (nmake_v false fx rfl).mono ?_
        rintro e y102 ⟨s4, rfl, f4, hb9⟩
        replace fq := fq.below hb9
        replace fx := fx.below hb9
        replace b0 := b0.below hb9
        replace b3 := b3.below hb9
        replace b5 := b5.below hb9
        replace hT := hT.keep hb9 hlt
        replace hlt := Nat.lt_of_lt_of_le hlt hb9.size
        replace G0 := only_below G0 hb9 G0.size
        clear hb9
        go_wp2_with fail
        refine hK.out _ _ ⟨b3.cell 0 _ rfl, b3.cell 1 _ rfl, b3.cell 2 _ rfl⟩ (fun hHeld => ?_)
        clear hK K
        (try simp only [List.getElem_toArray, List.getElem_cons_succ, List.getElem_cons_zero, Act.put, List.setIfInBounds_toArray, List.set_cons_zero, List.set_cons_succ])
        refine wpAnyH_ready (rs := [4]) (by kernel_rfl) (by simp) (AllReadyH.cons (o := _) rfl (fun K hK => ?_) AllReadyH.nil)
        go_simp
        go_at_call 58
        refine (nmul_v fq.1 f4 (by omega) (by omega)).mono ?_
        rintro e y103 ⟨s5, A5, n5, c5, rfl, f5, hb9⟩
        replace fq := fq.below hb9
        replace fx := fx.below hb9
        replace f4 := f4.below hb9
        replace b0 := b0.below hb9
        replace b3 := b3.below hb9
        replace b5 := b5.below hb9
        replace hT := hT.keep hb9 hlt
        replace hlt := Nat.lt_of_lt_of_le hlt hb9.size
        replace G0 := only_below G0 hb9 G0.size
        clear hb9
        clear f4
        go_wp2_with fail
        refine hK.out _ _ ⟨b3.cell 0 _ rfl, b3.cell 1 _ rfl, b3.cell 2 _ rfl⟩ (fun hHeld => ?_)
        clear hK K
        (try simp only [List.getElem_toArray, List.getElem_cons_succ, List.getElem_cons_zero, Act.put, List.setIfInBounds_toArray, List.set_cons_zero, List.set_cons_succ])
        refine wpAnyH_ready (rs := [5]) (by kernel_rfl) (by simp) (AllReadyH.cons (o := _) rfl (fun K hK => ?_) AllReadyH.nil)
        go_simp
        go_at_call 42
        refine (toI_v f5 (by omega)).mono ?_
        rintro e y104 ⟨A9, n9, c9, rfl, f9, hb9⟩
        replace fq := fq.below hb9
        replace fx := fx.below hb9
        replace f5 := f5.below hb9
        replace b0 := b0.below hb9
        replace b3 := b3.below hb9
        replace b5 := b5.below hb9
        replace hT := hT.keep hb9 hlt
        replace hlt := Nat.lt_of_lt_of_le hlt hb9.size
        replace G0 := only_below G0 hb9 G0.size
        clear hb9
        clear f5
        go_wp2_with fail
        refine hK.out _ _ ⟨b3.cell 0 _ rfl, b3.cell 1 _ rfl, b3.cell 2 _ rfl⟩ (fun hHeld => ?_)
        clear hK K
        (try simp only [List.getElem_toArray, List.getElem_cons_succ, List.getElem_cons_zero, Act.put, List.setIfInBounds_toArray, List.set_cons_zero, List.set_cons_succ])
        refine wpAnyH_ready (rs := [7]) (by kernel_rfl) (by simp) (AllReadyH.cons (o := _) rfl (fun K hK => ?_) AllReadyH.nil)
        go_simp
        go_at_call 29
        refine (nden_v fq).mono ?_
        rintro e y105 ⟨A6, n6, c6, rfl, f6, hb9⟩
        replace fq := fq.below hb9
        replace fx := fx.below hb9
        replace f9 := f9.below hb9
        replace b0 := b0.below hb9
        replace b3 := b3.below hb9
        replace b5 := b5.below hb9
        replace hT := hT.keep hb9 hlt
        replace hlt := Nat.lt_of_lt_of_le hlt hb9.size
        replace G0 := only_below G0 hb9 G0.size
        clear hb9
        clear fq
        go_wp2_with fail
        refine hK.out _ _ ⟨b3.cell 0 _ rfl, b3.cell 1 _ rfl, b3.cell 2 _ rfl⟩ (fun hHeld => ?_)
        clear hK K
        (try simp only [List.getElem_toArray, List.getElem_cons_succ, List.getElem_cons_zero, Act.put, List.setIfInBounds_toArray, List.set_cons_zero, List.set_cons_succ])
        refine wpAnyH_ready (rs := [9]) (by kernel_rfl) (by simp) (AllReadyH.cons (o := _) rfl (fun K hK => ?_) AllReadyH.nil)
        go_simp
        go_at_call 59
        refine (nprod_v f6 fx (by omega) (by omega)).mono ?_
        rintro e y106 ⟨A7, n7, c7, rfl, f7, hb9⟩
        replace fx := fx.below hb9
        replace f9 := f9.below hb9
        replace f6 := f6.below hb9
        replace b0 := b0.below hb9
        replace b3 := b3.below hb9
        replace b5 := b5.below hb9
        replace hT := hT.keep hb9 hlt
        replace hlt := Nat.lt_of_lt_of_le hlt hb9.size
        replace G0 := only_below G0 hb9 G0.size
        clear hb9
        clear f6
        clear fx
        go_wp2_with fail
        refine hK.out _ _ ⟨b3.cell 0 _ rfl, b3.cell 1 _ rfl, b3.cell 2 _ rfl⟩ (fun hHeld => ?_)
        clear hK K
        (try simp only [List.getElem_toArray, List.getElem_cons_succ, List.getElem_cons_zero, Act.put, List.setIfInBounds_toArray, List.set_cons_zero, List.set_cons_succ])
        refine wpAnyH_ready (rs := [11]) (by kernel_rfl) (by simp) (AllReadyH.cons (o := _) rfl (fun K hK => ?_) AllReadyH.nil)
        go_simp
        go_at_call 45
        refine (next_any 3 (by omega) (by omega) hT).mono ?_
        rintro e y107 ⟨r3, rfl, hr3, hT', hg⟩
        replace f9 := f9.tape hT hg
        replace f7 := f7.tape hT hg
        replace b0 := b0.other hg (by omega)
        replace b3 := b3.other hg (by omega)
        replace b5 := b5.other hg (by omega)
        replace hlt := Nat.lt_of_lt_of_le hlt hg.size
        replace G0 := only_trans G0 hg
        clear hT
        have hT := hT'
        clear hT' hg
        go_wp2_with fail
        refine hK.out _ _ ⟨b3.cell 0 _ rfl, b3.cell 1 _ rfl, b3.cell 2 _ rfl⟩ (fun hHeld => ?_)
        clear hK K
        (try simp only [List.getElem_toArray, List.getElem_cons_succ, List.getElem_cons_zero, Act.put, List.setIfInBounds_toArray, List.set_cons_zero, List.set_cons_succ])
        refine wpAnyH_ready (rs := [12]) (by kernel_rfl) (by simp) (AllReadyH.cons (o := _) rfl (fun K hK => ?_) AllReadyH.nil)
        go_simp
        go_at_call 75
        refine (nats_r f7 r3 (by omega) hlt (by omega)).mono ?_
        rintro e y108 ⟨D8, m8, e8, rfl, f8, hb9⟩
        replace f9 := f9.below hb9
        replace f7 := f7.below hb9
        replace b0 := b0.below hb9
        replace b3 := b3.below hb9
        replace b5 := b5.below hb9
        replace hT := hT.keep hb9 hlt
        replace hlt := Nat.lt_of_lt_of_le hlt hb9.size
        replace G0 := only_below G0 hb9 G0.size
        clear hb9
        clear f7
        go_wp2_with fail
        refine hK.out _ _ ⟨b3.cell 0 _ rfl, b3.cell 1 _ rfl, b3.cell 2 _ rfl⟩ (fun hHeld => ?_)
        clear hK K
        (try simp only [List.getElem_toArray, List.getElem_cons_succ, List.getElem_cons_zero, Act.put, List.setIfInBounds_toArray, List.set_cons_zero, List.set_cons_succ])
        refine wpAnyH_take (i := 13) (v := ?_) rfl (by kernel_rfl) (by kernel_rfl) (by kernel_rfl) (fun _ _ _ h => h) (Or.inl ⟨by rfl, ?_⟩) (by assumption) ?_
        rotate_left
        · (intro w hSw; (try dsimp only at hSw); go_simp; (try with_reducible rfl))
        (try simp only [List.getElem_toArray, List.getElem_cons_succ, List.getElem_cons_zero, Act.put, List.setIfInBounds_toArray, List.set_cons_zero, List.set_cons_succ])
        have cb50 := b5.cell 0 _ rfl
        have yb50 := b5.frozen 0
        have cb51 := b5.cell 1 _ rfl
        have yb51 := b5.frozen 1
        have cb52 := b5.cell 2 _ rfl
        have yb52 := b5.frozen 2
        refine wpAnyH_ready (rs := [15]) (by kernel_rfl) (by simp) (AllReadyH.cons (o := _) rfl (fun K hK => ?_) AllReadyH.nil)
        go_simp
        clear cb50 yb50 cb51 yb51 cb52 yb52
        have hg := only_store3 y108 (v100.heap.size) (.bool s5) (.slice A9 n9 c9) (.slice D8 m8 e8)
        have hB := b5.stored3 (.bool s5) (.slice A9 n9 c9) (.slice D8 m8 e8)
        generalize hX : (((y108.setCell ⟨v100.heap.size, 0, none⟩ (.bool s5)).setCell ⟨v100.heap.size, 1, none⟩ (.slice A9 n9 c9)).setCell ⟨v100.heap.size, 2, none⟩ (.slice D8 m8 e8)) = X109 at hg hB ⊢
        clear hX
        replace f9 := f9.kept b5 (by simp [notInt]) hg
        replace f8 := f8.kept b5 (by simp [notInt]) hg
        replace b0 := b0.other hg (by omega)
        replace b3 := b3.other hg (by omega)
        replace b5 := hB
        have hBs := below_only (Below.refl w.heap.size y108) hg (by omega) G0.size
        replace hT := hT.keep hBs hb
        replace G0 := only_below G0 hBs (Nat.le_refl _)
        replace hlt := Nat.lt_of_lt_of_le hlt hg.size
        clear hg hB hBs
        refine hK.out _ _ ⟨b3.cell 0 _ rfl, b3.cell 1 _ rfl, b3.cell 2 _ rfl⟩ (fun hHeld => ?_)
        clear hK K
        (try simp only [List.getElem_toArray, List.getElem_cons_succ, List.getElem_cons_zero, Act.put, List.setIfInBounds_toArray, List.set_cons_zero, List.set_cons_succ])
        refine wpAnyH_done (by kernel_rfl) ?_ _
        refine NoPanic.normal ?_
        go_wp2_with fail
        go_meet
        exact ⟨_, s5, A9, n9, c9, D8, m8, e8, _, _, rfl, b5, f9.ri.more (by omega), f8.more (by omega), b0, hT, G0, hlt, by omega⟩
    case rest =>
      clear fq fx b0 b3 hT G0 hlt
      obtain ⟨g, s9, A9, n9, c9, D8, m8, e8, z, d, rfl, b5, f9, f8, b0, hT, G0, hlt, hwg⟩ := hcut
      go_wp2_with fail
      refine (next_any 12 (by omega) (by omega) hT).mono ?_
      rintro e w200 ⟨r, rfl, hr, hT', hg⟩
      replace f9 := f9.tape hT hg
      replace f8 := f8.tape hT hg
      replace b0 := b0.other hg (by omega)
      replace b5 := b5.other hg (by omega)
      replace hlt := Nat.lt_of_lt_of_le hlt hg.size
      replace G0 := only_trans G0 hg
      clear hT
      have hT := hT'
      clear hT' hg
      rcases Decidable.em (r = 0) with h1 | h1
      · have hr0 : ((r : Int) == 0) = true := by rw [beq_iff_eq]; omega
        have cb50 := b5.cell 0 _ rfl
        have yb50 := b5.frozen 0
        have cb51 := b5.cell 1 _ rfl
        have yb51 := b5.frozen 1
        have cb52 := b5.cell 2 _ rfl
        have yb52 := b5.frozen 2
        have cb00 := b0.cell 0 _ rfl
        have yb00 := b0.frozen 0
        have cb01 := b0.cell 1 _ rfl
        have yb01 := b0.frozen 1
        have cb02 := b0.cell 2 _ rfl
        have yb02 := b0.frozen 2
        have nbg : w.heap.size ≠ g := by omega
        have nbg2 : g ≠ w.heap.size := by omega
        go_wp2_with fail
        clear cb50 yb50 cb51 yb51 cb52 yb52 cb00 yb00 cb01 yb01 cb02 yb02
        have hg : w200.grownBy (w200.setCell ⟨g, 2, none⟩ (.slice none 0 0)) (some g) := only_setCell w200 ⟨g, 2, none⟩ (.slice none 0 0)
        have hB := b5.stored32 (.slice none 0 0)
        generalize hX : w200.setCell ⟨g, 2, none⟩ (.slice none 0 0) = X201 at hg hB ⊢
        clear hX
        replace f9 := f9.kept b5 (by simp [notInt]) hg
        replace f8 := f8.kept b5 (by simp [notInt]) hg
        replace b0 := b0.other hg (by omega)
        replace b5 := hB
        have hBs := below_only (Below.refl w.heap.size w200) hg (by omega) G0.size
        replace hT := hT.keep hBs hb
        replace G0 := only_below G0 hBs (Nat.le_refl _)
        replace hlt := Nat.lt_of_lt_of_le hlt hg.size
        clear hg hB hBs
        have cb50 := b5.cell 0 _ rfl
        have cb51 := b5.cell 1 _ rfl
        have cb52 := b5.cell 2 _ rfl
        have cb00 := b0.cell 0 _ rfl
        have yb00 := b0.frozen 0
        have cb01 := b0.cell 1 _ rfl
        have yb01 := b0.frozen 1
        have cb02 := b0.cell 2 _ rfl
        have yb02 := b0.frozen 2
        clear cb50 cb51 cb52 cb00 yb00 cb01 yb01 cb02 yb02
        have hg := only_store3 X201 (w.heap.size) (.bool s9) (.slice A9 n9 c9) (.slice none 0 0)
        have hB := b0.stored3 (.bool s9) (.slice A9 n9 c9) (.slice none 0 0)
        generalize hX : (((X201.setCell ⟨w.heap.size, 0, none⟩ (.bool s9)).setCell ⟨w.heap.size, 1, none⟩ (.slice A9 n9 c9)).setCell ⟨w.heap.size, 2, none⟩ (.slice none 0 0)) = X202 at hg hB ⊢
        clear hX
        replace f9 := f9.kept b0 (by simp [notInt]) hg
        replace f8 := f8.kept b0 (by simp [notInt]) hg
        replace b5 := b5.other hg (by omega)
        replace b0 := hB
        have hBs := below_only (Below.refl w.heap.size X201) hg (by omega) G0.size
        replace hT := hT.keep hBs hb
        replace G0 := only_below G0 hBs (Nat.le_refl _)
        replace hlt := Nat.lt_of_lt_of_le hlt hg.size
        clear hg hB hBs
        refine bodyPost_ret (ret_rat rfl rfl b0) rfl ?_
        exact ⟨_, s9, A9, n9, c9, none, 0, 0, rfl, ⟨_, _, f9, (slice_nil _ (L := 6)).rv, rfl⟩, hT, G0⟩
      · have hr0 : ((r : Int) == 0) = false := by rw [beq_eq_false_iff_ne]; omega
        have cb50 := b5.cell 0 _ rfl
        have cb51 := b5.cell 1 _ rfl
        have cb52 := b5.cell 2 _ rfl
        clear cb50 cb51 cb52
        have cb50 := b5.cell 0 _ rfl
        have cb51 := b5.cell 1 _ rfl
        have cb52 := b5.cell 2 _ rfl
        have cb00 := b0.cell 0 _ rfl
        have yb00 := b0.frozen 0
        have cb01 := b0.cell 1 _ rfl
        have yb01 := b0.frozen 1
        have cb02 := b0.cell 2 _ rfl
        have yb02 := b0.frozen 2
        go_wp2_with fail
        clear cb50 cb51 cb52 cb00 yb00 cb01 yb01 cb02 yb02
        have hg := only_store3 w200 (w.heap.size) (.bool s9) (.slice A9 n9 c9) (.slice D8 m8 e8)
        have hB := b0.stored3 (.bool s9) (.slice A9 n9 c9) (.slice D8 m8 e8)
        generalize hX : (((w200.setCell ⟨w.heap.size, 0, none⟩ (.bool s9)).setCell ⟨w.heap.size, 1, none⟩ (.slice A9 n9 c9)).setCell ⟨w.heap.size, 2, none⟩ (.slice D8 m8 e8)) = X201 at hg hB ⊢
        clear hX
        replace f9 := f9.kept b0 (by simp [notInt]) hg
        replace f8 := f8.kept b0 (by simp [notInt]) hg
        replace b5 := b5.other hg (by omega)
        replace b0 := hB
        have hBs := below_only (Below.refl w.heap.size w200) hg (by omega) G0.size
        replace hT := hT.keep hBs hb
        replace G0 := only_below G0 hBs (Nat.le_refl _)
        replace hlt := Nat.lt_of_lt_of_le hlt hg.size
        clear hg hB hBs
        refine bodyPost_ret (ret_rat rfl rfl b0) rfl ?_
        exact ⟨_, s9, A9, n9, c9, D8, m8, e8, rfl, ⟨_, _, f9, f8, rfl⟩, hT, G0⟩
end
end Go.Proofs.YtkhfadfjkmhpgaaGreatDoor
