/-
  The contracts of the reference's rational numbers.
-/
import Derived.Test.YthmmnmajkeoaaabGreatDoorON1
import Derived.Test.YthmmnmajkeoaaabGreatDoorORA
namespace Go.Proofs.YthmmnmajkeoaaabGreatDoor
open Go.RowKit

section
variable {A0 A1 A2 A3 D0 D1 D2 D3 : Option Addr} {n0 n1 n2 n3 c0 c1 c2 c3 m0 m1 m2 m3 e0 e1 e2 e3 : Nat} {s0 s1 s2 s3 : Bool} {z z' z0 z1 z2 : Int} {q q' q0 q1 q2 : Rat} {L L0 L1 L2 x x0 x1 y : Nat} {k : Int} {w : World}
theorem pden_one {q : Rat} (h : q.den = 1) : pden q = 0 := if_pos h
theorem pden_more {q : Rat} (h : q.den ≠ 1) : pden q = q.den := if_neg h
theorem nv_zero (h : NV w (.slice A0 n0 c0) 0 L) : n0 = 0 := by
  have h1 := (Raw.cap h.1).1; rw [digs_zero] at h1; exact h1
theorem nv_pos (h : NV w (.slice A0 n0 c0) x L) (hx : 0 < x) : 0 < n0 := by
  have h1 := (Raw.cap h.1).1; rw [h1]; exact digs_length_pos hx
theorem PQ.den0 {v u : Value} (h : PQ w s0 v u q L) (hq : q.den = 1) : NV w u 0 L := by have := h.2; rwa [pden_one hq] at this
theorem PQ.den1 {v u : Value} (h : PQ w s0 v u q L) (hq : q.den ≠ 1) : NV w u q.den L := by have := h.2; rwa [pden_more hq] at this
theorem slice_nil (w : World) {L : Nat} : NV w (.slice none 0 0) 0 L := ⟨num_zero _ _, Bs_pos L⟩
theorem PQ.int {v : Value} {z : Int} (h : NI w s0 v z L) : PQ w s0 v (.slice none 0 0) (z : Rat) L := ⟨h, by rw [pden_one (Rat.den_intCast z)]; exact slice_nil w⟩
theorem cmpI_one {x : Nat} (h : 0 < x) (h1 : x ≠ 1) : cmpI x 1 = 1 := cmpI_gt (by omega)
theorem rat_int {q : Rat} (h : q.den = 1) : q = (q.num : Rat) := Rat.ext rfl h
set_option maxRecDepth 100000 in
set_option maxHeartbeats 800000 in
theorem nden_v (h : PQ w s0 (.slice A0 n0 c0) (.slice D0 m0 e0) q L) :
    Calls Tryz.prog 62 #[.agg #[.bool s0, .slice A0 n0 c0, .slice D0 m0 e0]] w fun e w' => ∃ A1 n1 c1, e = .returned (.slice A1 n1 c1) ∧ NV w' (.slice A1 n1 c1) q.den (max L 1) ∧ Below w.heap.size w w' := by
  rcases Decidable.em (q.den = 1) with hq | hq
  · have hd := h.den0 hq
    have hm := nv_zero hd
    subst hm
    have HQ := Lib.hid hq
    clear h hq
    go_enter Tryz.func62, Tryz.ntmps62
    go_wp2_with fail
    obtain ⟨W0, hW, b0, hbW, hszW0⟩ := boxes1 w #[.bool s0, .slice A0 n0 c0, .slice D0 0 e0] 49
    rw [hW]
    clear hW
    replace hd := hd.below hbW
    have H0 := hbW
    clear hbW
    have cb00 := b0.cell 0 _ rfl
    have cb01 := b0.cell 1 _ rfl
    have cb02 := b0.cell 2 _ rfl
    clear hd
    go_wp2_with fail
    clear cb00 cb01 cb02
    refine (none_v _).mono ?_
    rintro e w1 ⟨A1, n1, c1, rfl, f1, hb⟩
    replace b0 := b0.below hb
    replace H0 := H0.trans (hb.mono H0.size)
    clear hb
    go_wp2_with fail
    go_returns
    exact ⟨A1, n1, c1, rfl, by rw [HQ.out]; exact f1.more (by omega), H0⟩
  · have hd := h.den1 hq
    have hm := nv_pos hd (Nat.pos_of_ne_zero q.den_nz)
    have hm1 : ((m0 : Int) == 0) = false := by rw [beq_eq_false_iff_ne]; omega
    clear h hq
    go_enter Tryz.func62, Tryz.ntmps62
    go_wp2_with fail
    obtain ⟨W0, hW, b0, hbW, hszW0⟩ := boxes1 w #[.bool s0, .slice A0 n0 c0, .slice D0 m0 e0] 49
    rw [hW]
    clear hW
    replace hd := hd.below hbW
    have H0 := hbW
    clear hbW
    have cb00 := b0.cell 0 _ rfl
    have cb01 := b0.cell 1 _ rfl
    have cb02 := b0.cell 2 _ rfl
    go_wp2_with fail
    go_returns
    exact ⟨D0, m0, e0, rfl, hd.more (by omega), H0⟩
set_option maxRecDepth 100000 in
set_option maxHeartbeats 800000 in
theorem nfrac_v (h : NI w s0 (.slice A0 n0 c0) z L) (h' : NV w (.slice A1 n1 c1) x L) (hx : x ≠ 0) (hL : L ≤ 900) :
    Calls Tryz.prog 54 #[.agg #[.bool s0, .slice A0 n0 c0], .slice A1 n1 c1] w fun e w' => ∃ s2 A2 n2 c2 D2 m2 e2, e = .returned (.agg #[.bool s2, .slice A2 n2 c2, .slice D2 m2 e2]) ∧ PQ w' s2 (.slice A2 n2 c2) (.slice D2 m2 e2) (mkRat z x) (L) ∧ Below w.heap.size w w' := by
  rcases Decidable.em (Nat.gcd z.natAbs x = 1) with hg | hg
  · rcases Decidable.em ((mkRat z x).den = 1) with hq | hq
    · have HD : Hid ((mkRat z x).den = 1) := Lib.hid hq
      have HC := Lib.hid (cmpI_eq hg)
      have HN : Hid ((mkRat z x).num = z) := Lib.hid (by rw [mk_num hx, hg]; simp)
      have HX : Hid ((mkRat z x).den = x) := Lib.hid (by rw [mk_den hx, hg, Nat.div_one])
      have HE : Hid (cmpI x 1 = 0) := Lib.hid (by have h1 := HX.out; rw [h1] at hq; exact cmpI_eq hq)
      clear hq hg hx
      clear HX
      go_enter Tryz.func54, Tryz.ntmps54
      go_wp2_with fail
      obtain ⟨W0, hW, b0, b1, hbW, hszW0⟩ := boxes2 w #[.bool s0, .slice A0 n0 c0] #[.bool false, .slice none 0 0, .slice none 0 0] 47 49
      rw [hW]
      clear hW
      replace h := h.below hbW
      replace h' := h'.below hbW
      have H0 := hbW
      clear hbW
      have cb00 := b0.cell 0 _ rfl
      have cb01 := b0.cell 1 _ rfl
      go_wp2_with fail
      clear cb00 cb01
      refine (ncommon_v h.1 h' (by omega) (by omega)).mono ?_
      rintro e w1 ⟨A2, n2, c2, rfl, fg, hb⟩
      replace h := h.below hb
      replace h' := h'.below hb
      replace b0 := b0.below hb
      replace b1 := b1.below hb
      replace H0 := H0.trans (hb.mono H0.size)
      clear hb
      go_wp2_with fail
      refine (none_v _).mono ?_
      rintro e w2 ⟨A3, n3, c3, rfl, f3, hb⟩
      replace h := h.below hb
      replace h' := h'.below hb
      replace fg := fg.below hb
      replace b0 := b0.below hb
      replace b1 := b1.below hb
      replace H0 := H0.trans (hb.mono H0.size)
      clear hb
      go_wp2_with fail
      refine (ncmp_v fg f3 HC.out).mono ?_
      rintro e w3 ⟨rfl, hb⟩
      replace h := h.below hb
      replace h' := h'.below hb
      replace fg := fg.below hb
      replace f3 := f3.below hb
      replace b0 := b0.below hb
      replace b1 := b1.below hb
      replace H0 := H0.trans (hb.mono H0.size)
      clear hb
      have cb00 := b0.cell 0 _ rfl
      have cb01 := b0.cell 1 _ rfl
      go_wp2_with fail
      clear f3
      clear fg
      clear cb00 cb01
      refine (none_v _).mono ?_
      rintro e w4 ⟨A9, n9, c9, rfl, f9, hb⟩
      replace h := h.below hb
      replace h' := h'.below hb
      replace b0 := b0.below hb
      replace b1 := b1.below hb
      replace H0 := H0.trans (hb.mono H0.size)
      clear hb
      go_wp2_with fail
      refine (ncmp_v h' f9 HE.out).mono ?_
      rintro e w5 ⟨rfl, hb⟩
      replace h := h.below hb
      replace h' := h'.below hb
      replace f9 := f9.below hb
      replace b0 := b0.below hb
      replace b1 := b1.below hb
      replace H0 := H0.trans (hb.mono H0.size)
      clear hb
      have cb00 := b0.cell 0 _ rfl
      have cb01 := b0.cell 1 _ rfl
      have cb10 := b1.cell 0 _ rfl
      have yb10 := b1.frozen 0
      have cb11 := b1.cell 1 _ rfl
      have yb11 := b1.frozen 1
      have cb12 := b1.cell 2 _ rfl
      have yb12 := b1.frozen 2
      clear f9
      clear cb00 cb01 cb10 yb10 cb11 yb11 cb12 yb12
      have cb00 := b0.cell 0 _ rfl
      have cb01 := b0.cell 1 _ rfl
      have cb10 := b1.cell 0 _ rfl
      have yb10 := b1.frozen 0
      have cb11 := b1.cell 1 _ rfl
      have yb11 := b1.frozen 1
      have cb12 := b1.cell 2 _ rfl
      have yb12 := b1.frozen 2
      go_wp2_with fail
      clear cb00 cb01 cb10 yb10 cb11 yb11 cb12 yb12
      have hg := only_store3 w5 (w.heap.size + 1) (.bool s0) (.slice A0 n0 c0) (.slice none 0 0)
      have hB := b1.stored3 (.bool s0) (.slice A0 n0 c0) (.slice none 0 0)
      generalize hX : (((w5.setCell ⟨w.heap.size + 1, 0, none⟩ (.bool s0)).setCell ⟨w.heap.size + 1, 1, none⟩ (.slice A0 n0 c0)).setCell ⟨w.heap.size + 1, 2, none⟩ (.slice none 0 0)) = X6 at hg hB ⊢
      clear hX
      replace h := h.kept b1 (by simp [notInt]) hg
      replace h' := h'.kept b1 (by simp [notInt]) hg
      replace b0 := b0.other hg (by omega)
      replace b1 := hB
      replace H0 := below_only H0 hg (by omega) H0.size
      clear hg hB
      refine bodyPost_ret (ret_numq rfl rfl b1) rfl ?_
      exact ⟨s0, A0, n0, c0, none, 0, 0, rfl, ⟨by rw [HN.out]; exact h, by rw [pden_one HD.out]; exact slice_nil _⟩, H0⟩
    · have HD : Hid ((mkRat z x).den ≠ 1) := Lib.hid hq
      have HC := Lib.hid (cmpI_eq hg)
      have HN : Hid ((mkRat z x).num = z) := Lib.hid (by rw [mk_num hx, hg]; simp)
      have HX : Hid ((mkRat z x).den = x) := Lib.hid (by rw [mk_den hx, hg, Nat.div_one])
      have HE : Hid (cmpI x 1 = 1) := Lib.hid (by have h1 := HX.out; rw [h1] at hq; exact cmpI_one (by omega) hq)
      clear hq hg hx
      go_enter Tryz.func54, Tryz.ntmps54
      go_wp2_with fail
      obtain ⟨W0, hW, b0, b1, hbW, hszW0⟩ := boxes2 w #[.bool s0, .slice A0 n0 c0] #[.bool false, .slice none 0 0, .slice none 0 0] 47 49
      rw [hW]
      clear hW
      replace h := h.below hbW
      replace h' := h'.below hbW
      have H0 := hbW
      clear hbW
      have cb00 := b0.cell 0 _ rfl
      have cb01 := b0.cell 1 _ rfl
      go_wp2_with fail
      clear cb00 cb01
      refine (ncommon_v h.1 h' (by omega) (by omega)).mono ?_
      rintro e w1 ⟨A2, n2, c2, rfl, fg, hb⟩
      replace h := h.below hb
      replace h' := h'.below hb
      replace b0 := b0.below hb
      replace b1 := b1.below hb
      replace H0 := H0.trans (hb.mono H0.size)
      clear hb
      go_wp2_with fail
      refine (none_v _).mono ?_
      rintro e w2 ⟨A3, n3, c3, rfl, f3, hb⟩
      replace h := h.below hb
      replace h' := h'.below hb
      replace fg := fg.below hb
      replace b0 := b0.below hb
      replace b1 := b1.below hb
      replace H0 := H0.trans (hb.mono H0.size)
      clear hb
      go_wp2_with fail
      refine (ncmp_v fg f3 HC.out).mono ?_
      rintro e w3 ⟨rfl, hb⟩
      replace h := h.below hb
      replace h' := h'.below hb
      replace fg := fg.below hb
      replace f3 := f3.below hb
      replace b0 := b0.below hb
      replace b1 := b1.below hb
      replace H0 := H0.trans (hb.mono H0.size)
      clear hb
      have cb00 := b0.cell 0 _ rfl
      have cb01 := b0.cell 1 _ rfl
      go_wp2_with fail
      clear f3
      clear fg
      clear cb00 cb01
      refine (none_v _).mono ?_
      rintro e w4 ⟨A9, n9, c9, rfl, f9, hb⟩
      replace h := h.below hb
      replace h' := h'.below hb
      replace b0 := b0.below hb
      replace b1 := b1.below hb
      replace H0 := H0.trans (hb.mono H0.size)
      clear hb
      go_wp2_with fail
      refine (ncmp_v h' f9 HE.out).mono ?_
      rintro e w5 ⟨rfl, hb⟩
      replace h := h.below hb
      replace h' := h'.below hb
      replace f9 := f9.below hb
      replace b0 := b0.below hb
      replace b1 := b1.below hb
      replace H0 := H0.trans (hb.mono H0.size)
      clear hb
      have cb00 := b0.cell 0 _ rfl
      have cb01 := b0.cell 1 _ rfl
      have cb10 := b1.cell 0 _ rfl
      have yb10 := b1.frozen 0
      have cb11 := b1.cell 1 _ rfl
      have yb11 := b1.frozen 1
      have cb12 := b1.cell 2 _ rfl
      have yb12 := b1.frozen 2
      clear f9
      clear cb00 cb01 cb10 yb10 cb11 yb11 cb12 yb12
      have cb00 := b0.cell 0 _ rfl
      have cb01 := b0.cell 1 _ rfl
      have cb10 := b1.cell 0 _ rfl
      have yb10 := b1.frozen 0
      have cb11 := b1.cell 1 _ rfl
      have yb11 := b1.frozen 1
      have cb12 := b1.cell 2 _ rfl
      have yb12 := b1.frozen 2
      go_wp2_with fail
      clear cb00 cb01 cb10 yb10 cb11 yb11 cb12 yb12
      have hg := only_store3 w5 (w.heap.size + 1) (.bool s0) (.slice A0 n0 c0) (.slice A1 n1 c1)
      have hB := b1.stored3 (.bool s0) (.slice A0 n0 c0) (.slice A1 n1 c1)
      generalize hX : (((w5.setCell ⟨w.heap.size + 1, 0, none⟩ (.bool s0)).setCell ⟨w.heap.size + 1, 1, none⟩ (.slice A0 n0 c0)).setCell ⟨w.heap.size + 1, 2, none⟩ (.slice A1 n1 c1)) = X6 at hg hB ⊢
      clear hX
      replace h := h.kept b1 (by simp [notInt]) hg
      replace h' := h'.kept b1 (by simp [notInt]) hg
      replace b0 := b0.other hg (by omega)
      replace b1 := hB
      replace H0 := below_only H0 hg (by omega) H0.size
      clear hg hB
      refine bodyPost_ret (ret_numq rfl rfl b1) rfl ?_
      exact ⟨s0, A0, n0, c0, A1, n1, c1, rfl, ⟨by rw [HN.out]; exact h, by rw [pden_more HD.out, HX.out]; exact h'⟩, H0⟩
  · rcases Decidable.em ((mkRat z x).den = 1) with hq | hq
    · have HD : Hid ((mkRat z x).den = 1) := Lib.hid hq
      have hgp := Nat.gcd_pos_of_pos_right z.natAbs (Nat.pos_of_ne_zero hx)
      have HG := Lib.hid hgp
      have HC := Lib.hid (cmpI_one hgp hg)
      have HX : Hid ((mkRat z x).den = x / Nat.gcd z.natAbs x) := Lib.hid (mk_den hx)
      have HS := Lib.hid (mk_sg hx h.ri.sg)
      have HE : Hid (cmpI (x / Nat.gcd z.natAbs x) 1 = 0) := Lib.hid (by have h1 := HX.out; rw [h1] at hq; exact cmpI_eq hq)
      clear hq hg hx hgp
      clear HX
      go_enter Tryz.func54, Tryz.ntmps54
      go_wp2_with fail
      obtain ⟨W0, hW, b0, b1, hbW, hszW0⟩ := boxes2 w #[.bool s0, .slice A0 n0 c0] #[.bool false, .slice none 0 0, .slice none 0 0] 47 49
      rw [hW]
      clear hW
      replace h := h.below hbW
      replace h' := h'.below hbW
      have H0 := hbW
      clear hbW
      have cb00 := b0.cell 0 _ rfl
      have cb01 := b0.cell 1 _ rfl
      go_wp2_with fail
      clear cb00 cb01
      refine (ncommon_v h.1 h' (by omega) (by omega)).mono ?_
      rintro e w1 ⟨A2, n2, c2, rfl, fg, hb⟩
      replace h := h.below hb
      replace h' := h'.below hb
      replace b0 := b0.below hb
      replace b1 := b1.below hb
      replace H0 := H0.trans (hb.mono H0.size)
      clear hb
      go_wp2_with fail
      refine (none_v _).mono ?_
      rintro e w2 ⟨A3, n3, c3, rfl, f3, hb⟩
      replace h := h.below hb
      replace h' := h'.below hb
      replace fg := fg.below hb
      replace b0 := b0.below hb
      replace b1 := b1.below hb
      replace H0 := H0.trans (hb.mono H0.size)
      clear hb
      go_wp2_with fail
      refine (ncmp_v fg f3 HC.out).mono ?_
      rintro e w3 ⟨rfl, hb⟩
      replace h := h.below hb
      replace h' := h'.below hb
      replace fg := fg.below hb
      replace f3 := f3.below hb
      replace b0 := b0.below hb
      replace b1 := b1.below hb
      replace H0 := H0.trans (hb.mono H0.size)
      clear hb
      have cb00 := b0.cell 0 _ rfl
      have cb01 := b0.cell 1 _ rfl
      go_wp2_with fail
      clear f3
      clear cb00 cb01
      refine (ndivide_v h.1 fg HG.out (by omega)).mono ?_
      rintro e w4 ⟨A4, n4, c4, A5, n5, c5, rfl, f4, _, hb⟩
      replace h := h.below hb
      replace h' := h'.below hb
      replace fg := fg.below hb
      replace b0 := b0.below hb
      replace b1 := b1.below hb
      replace H0 := H0.trans (hb.mono H0.size)
      clear hb
      have cb00 := b0.cell 0 _ rfl
      have cb01 := b0.cell 1 _ rfl
      go_wp2_with fail
      clear cb00 cb01
      refine (nmake_v s0 f4 HS.out).mono ?_
      rintro e w5 ⟨s6, rfl, f6, hb⟩
      replace h := h.below hb
      replace h' := h'.below hb
      replace fg := fg.below hb
      replace f4 := f4.below hb
      replace b0 := b0.below hb
      replace b1 := b1.below hb
      replace H0 := H0.trans (hb.mono H0.size)
      clear hb
      clear h
      clear f4
      have cb00 := b0.cell 0 _ rfl
      have yb00 := b0.frozen 0
      have cb01 := b0.cell 1 _ rfl
      have yb01 := b0.frozen 1
      go_wp2_with fail
      clear cb00 yb00 cb01 yb01
      have hg := only_store w5 (w.heap.size) (.bool s6) (.slice A4 n4 c4)
      have hB := b0.stored (.bool s6) (.slice A4 n4 c4)
      generalize hX : ((w5.setCell ⟨w.heap.size, 0, none⟩ (.bool s6)).setCell ⟨w.heap.size, 1, none⟩ (.slice A4 n4 c4)) = X6 at hg hB ⊢
      clear hX
      replace h' := h'.kept b0 (by simp [notInt]) hg
      replace fg := fg.kept b0 (by simp [notInt]) hg
      replace f6 := f6.kept b0 (by simp [notInt]) hg
      replace b1 := b1.other hg (by omega)
      replace b0 := hB
      replace H0 := below_only H0 hg (by omega) H0.size
      clear hg hB
      go_wp2_with fail
      refine (ndivide_v h' fg HG.out (by omega)).mono ?_
      rintro e w7 ⟨A7, n7, c7, A8, n8, c8, rfl, f7, _, hb⟩
      replace h' := h'.below hb
      replace fg := fg.below hb
      replace f6 := f6.below hb
      replace b0 := b0.below hb
      replace b1 := b1.below hb
      replace H0 := H0.trans (hb.mono H0.size)
      clear hb
      go_wp2_with fail
      clear h'
      clear fg
      refine (none_v _).mono ?_
      rintro e w8 ⟨A9, n9, c9, rfl, f9, hb⟩
      replace f6 := f6.below hb
      replace f7 := f7.below hb
      replace b0 := b0.below hb
      replace b1 := b1.below hb
      replace H0 := H0.trans (hb.mono H0.size)
      clear hb
      go_wp2_with fail
      refine (ncmp_v f7 f9 HE.out).mono ?_
      rintro e w9 ⟨rfl, hb⟩
      replace f6 := f6.below hb
      replace f7 := f7.below hb
      replace f9 := f9.below hb
      replace b0 := b0.below hb
      replace b1 := b1.below hb
      replace H0 := H0.trans (hb.mono H0.size)
      clear hb
      have cb00 := b0.cell 0 _ rfl
      have cb01 := b0.cell 1 _ rfl
      have cb10 := b1.cell 0 _ rfl
      have yb10 := b1.frozen 0
      have cb11 := b1.cell 1 _ rfl
      have yb11 := b1.frozen 1
      have cb12 := b1.cell 2 _ rfl
      have yb12 := b1.frozen 2
      clear f9
      clear cb00 cb01 cb10 yb10 cb11 yb11 cb12 yb12
      have cb00 := b0.cell 0 _ rfl
      have cb01 := b0.cell 1 _ rfl
      have cb10 := b1.cell 0 _ rfl
      have yb10 := b1.frozen 0
      have cb11 := b1.cell 1 _ rfl
      have yb11 := b1.frozen 1
      have cb12 := b1.cell 2 _ rfl
      have yb12 := b1.frozen 2
      go_wp2_with fail
      clear cb00 cb01 cb10 yb10 cb11 yb11 cb12 yb12
      have hg := only_store3 w9 (w.heap.size + 1) (.bool s6) (.slice A4 n4 c4) (.slice none 0 0)
      have hB := b1.stored3 (.bool s6) (.slice A4 n4 c4) (.slice none 0 0)
      generalize hX : (((w9.setCell ⟨w.heap.size + 1, 0, none⟩ (.bool s6)).setCell ⟨w.heap.size + 1, 1, none⟩ (.slice A4 n4 c4)).setCell ⟨w.heap.size + 1, 2, none⟩ (.slice none 0 0)) = X10 at hg hB ⊢
      clear hX
      replace f6 := f6.kept b1 (by simp [notInt]) hg
      replace f7 := f7.kept b1 (by simp [notInt]) hg
      replace b0 := b0.other hg (by omega)
      replace b1 := hB
      replace H0 := below_only H0 hg (by omega) H0.size
      clear hg hB
      refine bodyPost_ret (ret_numq rfl rfl b1) rfl ?_
      exact ⟨s6, A4, n4, c4, none, 0, 0, rfl, ⟨f6, by rw [pden_one HD.out]; exact slice_nil _⟩, H0⟩
    · have HD : Hid ((mkRat z x).den ≠ 1) := Lib.hid hq
      have hgp := Nat.gcd_pos_of_pos_right z.natAbs (Nat.pos_of_ne_zero hx)
      have HG := Lib.hid hgp
      have HC := Lib.hid (cmpI_one hgp hg)
      have HX : Hid ((mkRat z x).den = x / Nat.gcd z.natAbs x) := Lib.hid (mk_den hx)
      have HS := Lib.hid (mk_sg hx h.ri.sg)
      have HE : Hid (cmpI (x / Nat.gcd z.natAbs x) 1 = 1) := Lib.hid (by have h1 := HX.out; rw [h1] at hq; exact cmpI_one (by have := (mkRat z x).den_nz; omega) hq)
      clear hq hg hx hgp
      go_enter Tryz.func54, Tryz.ntmps54
      go_wp2_with fail
      obtain ⟨W0, hW, b0, b1, hbW, hszW0⟩ := boxes2 w #[.bool s0, .slice A0 n0 c0] #[.bool false, .slice none 0 0, .slice none 0 0] 47 49
      rw [hW]
      clear hW
      replace h := h.below hbW
      replace h' := h'.below hbW
      have H0 := hbW
      clear hbW
      have cb00 := b0.cell 0 _ rfl
      have cb01 := b0.cell 1 _ rfl
      go_wp2_with fail
      clear cb00 cb01
      refine (ncommon_v h.1 h' (by omega) (by omega)).mono ?_
      rintro e w1 ⟨A2, n2, c2, rfl, fg, hb⟩
      replace h := h.below hb
      replace h' := h'.below hb
      replace b0 := b0.below hb
      replace b1 := b1.below hb
      replace H0 := H0.trans (hb.mono H0.size)
      clear hb
      go_wp2_with fail
      refine (none_v _).mono ?_
      rintro e w2 ⟨A3, n3, c3, rfl, f3, hb⟩
      replace h := h.below hb
      replace h' := h'.below hb
      replace fg := fg.below hb
      replace b0 := b0.below hb
      replace b1 := b1.below hb
      replace H0 := H0.trans (hb.mono H0.size)
      clear hb
      go_wp2_with fail
      refine (ncmp_v fg f3 HC.out).mono ?_
      rintro e w3 ⟨rfl, hb⟩
      replace h := h.below hb
      replace h' := h'.below hb
      replace fg := fg.below hb
      replace f3 := f3.below hb
      replace b0 := b0.below hb
      replace b1 := b1.below hb
      replace H0 := H0.trans (hb.mono H0.size)
      clear hb
      have cb00 := b0.cell 0 _ rfl
      have cb01 := b0.cell 1 _ rfl
      go_wp2_with fail
      clear f3
      clear cb00 cb01
      refine (ndivide_v h.1 fg HG.out (by omega)).mono ?_
      rintro e w4 ⟨A4, n4, c4, A5, n5, c5, rfl, f4, _, hb⟩
      replace h := h.below hb
      replace h' := h'.below hb
      replace fg := fg.below hb
      replace b0 := b0.below hb
      replace b1 := b1.below hb
      replace H0 := H0.trans (hb.mono H0.size)
      clear hb
      have cb00 := b0.cell 0 _ rfl
      have cb01 := b0.cell 1 _ rfl
      go_wp2_with fail
      clear cb00 cb01
      refine (nmake_v s0 f4 HS.out).mono ?_
      rintro e w5 ⟨s6, rfl, f6, hb⟩
      replace h := h.below hb
      replace h' := h'.below hb
      replace fg := fg.below hb
      replace f4 := f4.below hb
      replace b0 := b0.below hb
      replace b1 := b1.below hb
      replace H0 := H0.trans (hb.mono H0.size)
      clear hb
      clear h
      clear f4
      have cb00 := b0.cell 0 _ rfl
      have yb00 := b0.frozen 0
      have cb01 := b0.cell 1 _ rfl
      have yb01 := b0.frozen 1
      go_wp2_with fail
      clear cb00 yb00 cb01 yb01
      have hg := only_store w5 (w.heap.size) (.bool s6) (.slice A4 n4 c4)
      have hB := b0.stored (.bool s6) (.slice A4 n4 c4)
      generalize hX : ((w5.setCell ⟨w.heap.size, 0, none⟩ (.bool s6)).setCell ⟨w.heap.size, 1, none⟩ (.slice A4 n4 c4)) = X6 at hg hB ⊢
      clear hX
      replace h' := h'.kept b0 (by simp [notInt]) hg
      replace fg := fg.kept b0 (by simp [notInt]) hg
      replace f6 := f6.kept b0 (by simp [notInt]) hg
      replace b1 := b1.other hg (by omega)
      replace b0 := hB
      replace H0 := below_only H0 hg (by omega) H0.size
      clear hg hB
      go_wp2_with fail
      refine (ndivide_v h' fg HG.out (by omega)).mono ?_
      rintro e w7 ⟨A7, n7, c7, A8, n8, c8, rfl, f7, _, hb⟩
      replace h' := h'.below hb
      replace fg := fg.below hb
      replace f6 := f6.below hb
      replace b0 := b0.below hb
      replace b1 := b1.below hb
      replace H0 := H0.trans (hb.mono H0.size)
      clear hb
      go_wp2_with fail
      clear h'
      clear fg
      refine (none_v _).mono ?_
      rintro e w8 ⟨A9, n9, c9, rfl, f9, hb⟩
      replace f6 := f6.below hb
      replace f7 := f7.below hb
      replace b0 := b0.below hb
      replace b1 := b1.below hb
      replace H0 := H0.trans (hb.mono H0.size)
      clear hb
      go_wp2_with fail
      refine (ncmp_v f7 f9 HE.out).mono ?_
      rintro e w9 ⟨rfl, hb⟩
      replace f6 := f6.below hb
      replace f7 := f7.below hb
      replace f9 := f9.below hb
      replace b0 := b0.below hb
      replace b1 := b1.below hb
      replace H0 := H0.trans (hb.mono H0.size)
      clear hb
      have cb00 := b0.cell 0 _ rfl
      have cb01 := b0.cell 1 _ rfl
      have cb10 := b1.cell 0 _ rfl
      have yb10 := b1.frozen 0
      have cb11 := b1.cell 1 _ rfl
      have yb11 := b1.frozen 1
      have cb12 := b1.cell 2 _ rfl
      have yb12 := b1.frozen 2
      clear f9
      clear cb00 cb01 cb10 yb10 cb11 yb11 cb12 yb12
      have cb00 := b0.cell 0 _ rfl
      have cb01 := b0.cell 1 _ rfl
      have cb10 := b1.cell 0 _ rfl
      have yb10 := b1.frozen 0
      have cb11 := b1.cell 1 _ rfl
      have yb11 := b1.frozen 1
      have cb12 := b1.cell 2 _ rfl
      have yb12 := b1.frozen 2
      go_wp2_with fail
      clear cb00 cb01 cb10 yb10 cb11 yb11 cb12 yb12
      have hg := only_store3 w9 (w.heap.size + 1) (.bool s6) (.slice A4 n4 c4) (.slice A7 n7 c7)
      have hB := b1.stored3 (.bool s6) (.slice A4 n4 c4) (.slice A7 n7 c7)
      generalize hX : (((w9.setCell ⟨w.heap.size + 1, 0, none⟩ (.bool s6)).setCell ⟨w.heap.size + 1, 1, none⟩ (.slice A4 n4 c4)).setCell ⟨w.heap.size + 1, 2, none⟩ (.slice A7 n7 c7)) = X10 at hg hB ⊢
      clear hX
      replace f6 := f6.kept b1 (by simp [notInt]) hg
      replace f7 := f7.kept b1 (by simp [notInt]) hg
      replace b0 := b0.other hg (by omega)
      replace b1 := hB
      replace H0 := below_only H0 hg (by omega) H0.size
      clear hg hB
      refine bodyPost_ret (ret_numq rfl rfl b1) rfl ?_
      exact ⟨s6, A4, n4, c4, A7, n7, c7, rfl, ⟨f6, by rw [pden_more HD.out, HX.out]; exact f7⟩, H0⟩
set_option maxRecDepth 100000 in
set_option maxHeartbeats 800000 in
theorem nof_v (z : Int) (h0 : -9223372036854775808 ≤ z) (h1 : z ≤ 9223372036854775807) (w : World) :
    Calls Tryz.prog 20 #[.int .i64 z] w fun e w' => ∃ s1 A1 n1 c1 D1 m1 e1, e = .returned (.agg #[.bool s1, .slice A1 n1 c1, .slice D1 m1 e1]) ∧ PQ w' s1 (.slice A1 n1 c1) (.slice D1 m1 e1) (z:Rat) (2) ∧ Below w.heap.size w w' := by
  have HI := Lib.hid (fun W => nint_v z h0 h1 W)
  clear h0 h1
  go_enter Tryz.func20, Tryz.ntmps20
  go_wp2_with fail
  obtain ⟨W0, hW, b0, hbW, hszW0⟩ := boxes1 w #[.bool false, .slice none 0 0, .slice none 0 0] 49
  rw [hW]
  clear hW
  have H0 := hbW
  clear hbW
  refine (HI.out _).mono ?_
  rintro e w1 ⟨s1, A1, n1, c1, rfl, fi, hb⟩
  replace b0 := b0.below hb
  replace H0 := H0.trans (hb.mono H0.size)
  clear hb
  have cb00 := b0.cell 0 _ rfl
  have yb00 := b0.frozen 0
  have cb01 := b0.cell 1 _ rfl
  have yb01 := b0.frozen 1
  have cb02 := b0.cell 2 _ rfl
  have yb02 := b0.frozen 2
  go_wp2_with fail
  clear cb00 yb00 cb01 yb01 cb02 yb02
  have hg := only_store3 w1 (w.heap.size) (.bool s1) (.slice A1 n1 c1) (.slice none 0 0)
  have hB := b0.stored3 (.bool s1) (.slice A1 n1 c1) (.slice none 0 0)
  generalize hX : (((w1.setCell ⟨w.heap.size, 0, none⟩ (.bool s1)).setCell ⟨w.heap.size, 1, none⟩ (.slice A1 n1 c1)).setCell ⟨w.heap.size, 2, none⟩ (.slice none 0 0)) = X2 at hg hB ⊢
  clear hX
  replace fi := fi.kept b0 (by simp [notInt]) hg
  replace b0 := hB
  replace H0 := below_only H0 hg (by omega) H0.size
  clear hg hB
  refine bodyPost_ret (ret_numq rfl rfl b0) rfl ?_
  exact ⟨s1, A1, n1, c1, none, 0, 0, rfl, PQ.int fi, H0⟩
set_option maxRecDepth 100000 in
set_option maxHeartbeats 800000 in
theorem nqs_v (h : PQ w s0 (.slice A0 n0 c0) (.slice D0 m0 e0) q L) (hk : rsg q = k) :
    Calls Tryz.prog 17 #[.agg #[.bool s0, .slice A0 n0 c0, .slice D0 m0 e0]] w fun e w' => e = .returned (.int .i64 k) ∧ Below w.heap.size w w' := by
  have HK : Hid (q.num.sign = k) := Lib.hid hk
  clear hk
  go_enter Tryz.func17, Tryz.ntmps17
  go_wp2_with fail
  obtain ⟨W0, hW, b0, hbW, hszW0⟩ := boxes1 w #[.bool s0, .slice A0 n0 c0, .slice D0 m0 e0] 49
  rw [hW]
  clear hW
  replace h := h.below hbW
  have H0 := hbW
  clear hbW
  have cb00 := b0.cell 0 _ rfl
  have cb01 := b0.cell 1 _ rfl
  have cb02 := b0.cell 2 _ rfl
  go_wp2_with fail
  clear cb00 cb01 cb02
  refine (nsign_v h.1 HK.out).mono ?_
  rintro e w1 ⟨rfl, hb⟩
  replace h := h.below hb
  replace b0 := b0.below hb
  replace H0 := H0.trans (hb.mono H0.size)
  clear hb
  go_wp2_with fail
  go_returns
  exact ⟨rfl, H0⟩
set_option maxRecDepth 100000 in
set_option maxHeartbeats 800000 in
theorem nopp_v (h : PQ w s0 (.slice A0 n0 c0) (.slice D0 m0 e0) q L) :
    Calls Tryz.prog 59 #[.agg #[.bool s0, .slice A0 n0 c0, .slice D0 m0 e0]] w fun e w' => ∃ s3, e = .returned (.agg #[.bool s3, .slice A0 n0 c0, .slice D0 m0 e0]) ∧ PQ w' s3 (.slice A0 n0 c0) (.slice D0 m0 e0) (-q) L ∧ Below w.heap.size w w' := by
  obtain ⟨h1, h2⟩ := h
  go_enter Tryz.func59, Tryz.ntmps59
  go_wp2_with fail
  obtain ⟨W0, hW, b0, b1, hbW, hszW0⟩ := boxes2 w #[.bool s0, .slice A0 n0 c0, .slice D0 m0 e0] #[.bool false, .slice none 0 0, .slice none 0 0] 49 49
  rw [hW]
  clear hW
  replace h1 := h1.below hbW
  replace h2 := h2.below hbW
  have H0 := hbW
  clear hbW
  have hD := drawn_below W0
  replace h1 := h1.below hD
  replace h2 := h2.below hD
  replace b0 := b0.below hD
  replace b1 := b1.below hD
  replace H0 := H0.trans (hD.mono H0.size)
  clear hD
  have K0 := (And.intro (b0.cell 0 _ rfl) (And.intro (b0.cell 1 _ rfl) (b0.cell 2 _ rfl)))
  go_region_held3 (fun V => V.cell? ⟨w.heap.size, 0, none⟩ = some (.bool s0) ∧ V.cell? ⟨w.heap.size, 1, none⟩ = some (.slice A0 n0 c0) ∧ V.cell? ⟨w.heap.size, 2, none⟩ = some (.slice D0 m0 e0)) (first | exact KS | exact K1 | exact K0 | go_keep)
    (first
      | (go_at_call 91; have hK9 := K0; clear hK9; with_reducible refine (nminus_v h1).mono ?_; rintro e v1 ⟨s3, rfl, fi, hb⟩; have h1 := h1.below hb; have h2 := h2.below hb; have b0 := b0.below hb; have b1 := b1.below hb; have H0 := H0.trans (hb.mono H0.size); clear h1; have K1 := (And.intro (b0.cell 0 _ rfl) (And.intro (b0.cell 1 _ rfl) (b0.cell 2 _ rfl))); have r0 := b1.cell 0 _ rfl; have f_0 := b1.frozen 0; have r1 := b1.cell 1 _ rfl; have f_1 := b1.frozen 1; have r2 := b1.cell 2 _ rfl; have f_2 := b1.frozen 2; have hg := only_store3 v1 (w.heap.size + 1) (.bool s3) (.slice A0 n0 c0) (.slice D0 m0 e0); have KS := (And.intro ((b0.other hg (by omega)).cell 0 _ rfl) (And.intro ((b0.other hg (by omega)).cell 1 _ rfl) ((b0.other hg (by omega)).cell 2 _ rfl))); clear hb)
    )
  have hB := b1.stored3 (.bool s3) (.slice A0 n0 c0) (.slice D0 m0 e0)
  go_wp2_with fail
  generalize hX : (((v1.setCell ⟨w.heap.size + 1, 0, none⟩ (.bool s3)).setCell ⟨w.heap.size + 1, 1, none⟩ (.slice A0 n0 c0)).setCell ⟨w.heap.size + 1, 2, none⟩ (.slice D0 m0 e0)) = X2 at hg hB ⊢
  clear hX r0 f_0 r1 f_1 r2 f_2
  replace h2 := h2.kept b1 (by simp [notInt]) hg
  replace fi := fi.kept b1 (by simp [notInt]) hg
  replace b0 := b0.other hg (by omega)
  replace b1 := hB
  replace H0 := below_only H0 hg (by omega) H0.size
  clear hg hB
  refine bodyPost_ret (ret_numq rfl rfl b1) rfl ?_
  exact ⟨s3, rfl, ⟨fi, h2⟩, H0⟩
set_option maxRecDepth 100000 in
set_option maxHeartbeats 800000 in
theorem nplus_v (h : PQ w s0 (.slice A0 n0 c0) (.slice D0 m0 e0) q L) (h' : PQ w s1 (.slice A1 n1 c1) (.slice D1 m1 e1) q' L0) (hL : L ≤ 100) (hL' : L0 ≤ 100) :
    Calls Tryz.prog 39 #[.agg #[.bool s0, .slice A0 n0 c0, .slice D0 m0 e0], .agg #[.bool s1, .slice A1 n1 c1, .slice D1 m1 e1]] w fun e w' => ∃ s3 A3 n3 c3 D3 m3 e3, e = .returned (.agg #[.bool s3, .slice A3 n3 c3, .slice D3 m3 e3]) ∧ PQ w' s3 (.slice A3 n3 c3) (.slice D3 m3 e3) (q+q') (max L 1 + max L0 1 + 1) ∧ Below w.heap.size w w' := by
  rcases Decidable.em (q.den = 1) with hq | hq
  · rcases Decidable.em (q'.den = 1) with hq' | hq'
    · have h1 := h.1
      have h1' := h'.1
      have hm := nv_zero (h.den0 hq)
      have hm' := nv_zero (h'.den0 hq')
      have HE : Hid (q + q' = ((q.num + q'.num : Int) : Rat)) := Lib.hid (by rw [rat_int hq, rat_int hq']; simp)
      clear h h'
      subst hm
      subst hm'
      clear hq hq'
      go_enter Tryz.func39, Tryz.ntmps39
      go_wp2_with fail
      obtain ⟨W0, hW, b0, b1, b2, hbW, hszW0⟩ := boxes3 w #[.bool s0, .slice A0 n0 c0, .slice D0 0 e0] #[.bool s1, .slice A1 n1 c1, .slice D1 0 e1] #[.bool false, .slice none 0 0, .slice none 0 0] 49 49 49
      rw [hW]
      clear hW
      replace h1 := h1.below hbW
      replace h1' := h1'.below hbW
      have H0 := hbW
      clear hbW
      have cb00 := b0.cell 0 _ rfl
      have cb01 := b0.cell 1 _ rfl
      have cb02 := b0.cell 2 _ rfl
      have cb10 := b1.cell 0 _ rfl
      have cb11 := b1.cell 1 _ rfl
      have cb12 := b1.cell 2 _ rfl
      go_wp2_with fail
      clear cb00 cb01 cb02 cb10 cb11 cb12
      refine (nadd_v h1 h1' (by omega) (by omega)).mono ?_
      rintro e w1 ⟨s3, A3, n3, c3, rfl, fi, hb⟩
      replace h1 := h1.below hb
      replace h1' := h1'.below hb
      replace b0 := b0.below hb
      replace b1 := b1.below hb
      replace b2 := b2.below hb
      replace H0 := H0.trans (hb.mono H0.size)
      clear hb
      have cb20 := b2.cell 0 _ rfl
      have yb20 := b2.frozen 0
      have cb21 := b2.cell 1 _ rfl
      have yb21 := b2.frozen 1
      have cb22 := b2.cell 2 _ rfl
      have yb22 := b2.frozen 2
      go_wp2_with fail
      clear cb20 yb20 cb21 yb21 cb22 yb22
      have hg := only_store3 w1 (w.heap.size + 1 + 1) (.bool s3) (.slice A3 n3 c3) (.slice none 0 0)
      have hB := b2.stored3 (.bool s3) (.slice A3 n3 c3) (.slice none 0 0)
      generalize hX : (((w1.setCell ⟨w.heap.size + 1 + 1, 0, none⟩ (.bool s3)).setCell ⟨w.heap.size + 1 + 1, 1, none⟩ (.slice A3 n3 c3)).setCell ⟨w.heap.size + 1 + 1, 2, none⟩ (.slice none 0 0)) = X2 at hg hB ⊢
      clear hX
      replace h1 := h1.kept b2 (by simp [notInt]) hg
      replace h1' := h1'.kept b2 (by simp [notInt]) hg
      replace fi := fi.kept b2 (by simp [notInt]) hg
      replace b0 := b0.other hg (by omega)
      replace b1 := b1.other hg (by omega)
      replace b2 := hB
      replace H0 := below_only H0 hg (by omega) H0.size
      clear hg hB
      refine bodyPost_ret (ret_numq rfl rfl b2) rfl ?_
      exact ⟨s3, A3, n3, c3, none, 0, 0, rfl, by rw [HE.out]; exact PQ.int (fi.more (by omega)), H0⟩
    · have h1 := h.1
      have h1' := h'.1
      have hm := nv_zero (h.den0 hq)
      have hm' := nv_pos (h'.den1 hq') (Nat.pos_of_ne_zero q'.den_nz)
      have hm1' : ((m1 : Int) == 0) = false := by rw [beq_eq_false_iff_ne]; omega
      have HE : Hid (q + q' = mkRat (q.num * sg false q'.den + q'.num * sg false q.den) (q.den * q'.den)) := Lib.hid (Rat.add_def' q q')
      have HN : Hid (q.den * q'.den ≠ 0) := Lib.hid (Nat.mul_ne_zero q.den_nz q'.den_nz)
      subst hm
      clear hq hq'
      go_enter Tryz.func39, Tryz.ntmps39
      go_wp2_with fail
      obtain ⟨W0, hW, b0, b1, b2, hbW, hszW0⟩ := boxes3 w #[.bool s0, .slice A0 n0 c0, .slice D0 0 e0] #[.bool s1, .slice A1 n1 c1, .slice D1 m1 e1] #[.bool false, .slice none 0 0, .slice none 0 0] 49 49 49
      rw [hW]
      clear hW
      replace h := h.below hbW
      replace h' := h'.below hbW
      replace h1 := h1.below hbW
      replace h1' := h1'.below hbW
      have H0 := hbW
      clear hbW
      have cb00 := b0.cell 0 _ rfl
      have cb01 := b0.cell 1 _ rfl
      have cb02 := b0.cell 2 _ rfl
      have cb10 := b1.cell 0 _ rfl
      have cb11 := b1.cell 1 _ rfl
      have cb12 := b1.cell 2 _ rfl
      go_wp2_with fail
      clear cb00 cb01 cb02 cb10 cb11 cb12
      have hD := drawn_below W0
      replace h := h.below hD
      replace h' := h'.below hD
      replace h1 := h1.below hD
      replace h1' := h1'.below hD
      replace b0 := b0.below hD
      replace b1 := b1.below hD
      replace b2 := b2.below hD
      replace H0 := H0.trans (hD.mono H0.size)
      clear hD
      have K0 := (And.intro (b0.cell 0 _ rfl) (And.intro (b0.cell 1 _ rfl) (And.intro (b0.cell 2 _ rfl) (And.intro (b1.cell 0 _ rfl) (And.intro (b1.cell 1 _ rfl) (b1.cell 2 _ rfl))))))
      go_region_held3 (fun V => V.cell? ⟨w.heap.size, 0, none⟩ = some (.bool s0) ∧ V.cell? ⟨w.heap.size, 1, none⟩ = some (.slice A0 n0 c0) ∧ V.cell? ⟨w.heap.size, 2, none⟩ = some (.slice D0 0 e0) ∧ V.cell? ⟨w.heap.size + 1, 0, none⟩ = some (.bool s1) ∧ V.cell? ⟨w.heap.size + 1, 1, none⟩ = some (.slice A1 n1 c1) ∧ V.cell? ⟨w.heap.size + 1, 2, none⟩ = some (.slice D1 m1 e1)) (first | exact KS | exact K11 | exact K10 | exact K9 | exact K8 | exact K7 | exact K6 | exact K5 | exact K4 | exact K3 | exact K2 | exact K1 | exact K0 | go_keep)
        (first
          | (go_at_call 54; have hK9 := K10; clear hK9; with_reducible refine (nfrac_v (L := max L 1 + max L0 1 + 1) (f10.more (by omega)) (NV.more f13 (by omega)) HN.out (by omega)).mono ?_; rintro e v11 ⟨s3, A3, n3, c3, D3, m3, e3, rfl, fq, hb⟩; have h := h.below hb; have h' := h'.below hb; have h1 := h1.below hb; have h1' := h1'.below hb; have f10 := f10.below hb; have f13 := f13.below hb; have b0 := b0.below hb; have b1 := b1.below hb; have b2 := b2.below hb; have H0 := H0.trans (hb.mono H0.size); clear f10; clear f13; have K11 := (And.intro (b0.cell 0 _ rfl) (And.intro (b0.cell 1 _ rfl) (And.intro (b0.cell 2 _ rfl) (And.intro (b1.cell 0 _ rfl) (And.intro (b1.cell 1 _ rfl) (b1.cell 2 _ rfl)))))); have r0 := b2.cell 0 _ rfl; have f_0 := b2.frozen 0; have r1 := b2.cell 1 _ rfl; have f_1 := b2.frozen 1; have r2 := b2.cell 2 _ rfl; have f_2 := b2.frozen 2; have hg := only_store3 v11 (w.heap.size + 1 + 1) (.bool s3) (.slice A3 n3 c3) (.slice D3 m3 e3); have KS := (And.intro ((b0.other hg (by omega)).cell 0 _ rfl) (And.intro ((b0.other hg (by omega)).cell 1 _ rfl) (And.intro ((b0.other hg (by omega)).cell 2 _ rfl) (And.intro ((b1.other hg (by omega)).cell 0 _ rfl) (And.intro ((b1.other hg (by omega)).cell 1 _ rfl) ((b1.other hg (by omega)).cell 2 _ rfl)))))); clear hb)
          | (go_at_call 61; have hK9 := K9; clear hK9; with_reducible refine (nprod_v f11 f12 (by omega) (by omega)).mono ?_; rintro e v10 ⟨A13, n13, c13, rfl, f13, hb⟩; have h := h.below hb; have h' := h'.below hb; have h1 := h1.below hb; have h1' := h1'.below hb; have f10 := f10.below hb; have f11 := f11.below hb; have f12 := f12.below hb; have b0 := b0.below hb; have b1 := b1.below hb; have b2 := b2.below hb; have H0 := H0.trans (hb.mono H0.size); clear f11; clear f12; have K10 := (And.intro (b0.cell 0 _ rfl) (And.intro (b0.cell 1 _ rfl) (And.intro (b0.cell 2 _ rfl) (And.intro (b1.cell 0 _ rfl) (And.intro (b1.cell 1 _ rfl) (b1.cell 2 _ rfl)))))); clear hb)
          | (go_at_call 62; have hK9 := K8; clear hK9; with_reducible refine (nden_v h').mono ?_; rintro e v9 ⟨A12, n12, c12, rfl, f12, hb⟩; have h := h.below hb; have h' := h'.below hb; have h1 := h1.below hb; have h1' := h1'.below hb; have f10 := f10.below hb; have f11 := f11.below hb; have b0 := b0.below hb; have b1 := b1.below hb; have b2 := b2.below hb; have H0 := H0.trans (hb.mono H0.size); have K9 := (And.intro (b0.cell 0 _ rfl) (And.intro (b0.cell 1 _ rfl) (And.intro (b0.cell 2 _ rfl) (And.intro (b1.cell 0 _ rfl) (And.intro (b1.cell 1 _ rfl) (b1.cell 2 _ rfl)))))); clear hb)
          | (go_at_call 62; have hK9 := K7; clear hK9; with_reducible refine (nden_v h).mono ?_; rintro e v8 ⟨A11, n11, c11, rfl, f11, hb⟩; have h := h.below hb; have h' := h'.below hb; have h1 := h1.below hb; have h1' := h1'.below hb; have f10 := f10.below hb; have b0 := b0.below hb; have b1 := b1.below hb; have b2 := b2.below hb; have H0 := H0.trans (hb.mono H0.size); have K8 := (And.intro (b0.cell 0 _ rfl) (And.intro (b0.cell 1 _ rfl) (And.intro (b0.cell 2 _ rfl) (And.intro (b1.cell 0 _ rfl) (And.intro (b1.cell 1 _ rfl) (b1.cell 2 _ rfl)))))); clear hb)
          | (go_at_call 63; have hK9 := K6; clear hK9; with_reducible refine (nadd_v f6 f9 (by omega) (by omega)).mono ?_; rintro e v7 ⟨s10, A10, n10, c10, rfl, f10, hb⟩; have h := h.below hb; have h' := h'.below hb; have h1 := h1.below hb; have h1' := h1'.below hb; have f6 := f6.below hb; have f9 := f9.below hb; have b0 := b0.below hb; have b1 := b1.below hb; have b2 := b2.below hb; have H0 := H0.trans (hb.mono H0.size); clear f6; clear f9; have K7 := (And.intro (b0.cell 0 _ rfl) (And.intro (b0.cell 1 _ rfl) (And.intro (b0.cell 2 _ rfl) (And.intro (b1.cell 0 _ rfl) (And.intro (b1.cell 1 _ rfl) (b1.cell 2 _ rfl)))))); clear hb)
          | (go_at_call 60; have hK9 := K5; clear hK9; with_reducible refine (nmul_v h1' f8 (by omega) (by omega)).mono ?_; rintro e v6 ⟨s9, A9, n9, c9, rfl, f9, hb⟩; have h := h.below hb; have h' := h'.below hb; have h1 := h1.below hb; have h1' := h1'.below hb; have f6 := f6.below hb; have f8 := f8.below hb; have b0 := b0.below hb; have b1 := b1.below hb; have b2 := b2.below hb; have H0 := H0.trans (hb.mono H0.size); clear f8; have K6 := (And.intro (b0.cell 0 _ rfl) (And.intro (b0.cell 1 _ rfl) (And.intro (b0.cell 2 _ rfl) (And.intro (b1.cell 0 _ rfl) (And.intro (b1.cell 1 _ rfl) (b1.cell 2 _ rfl)))))); clear hb)
          | (go_at_call 64; have hK9 := K4; clear hK9; with_reducible refine (nmake_v false f7 rfl).mono ?_; rintro e v5 ⟨s8, rfl, f8, hb⟩; have h := h.below hb; have h' := h'.below hb; have h1 := h1.below hb; have h1' := h1'.below hb; have f6 := f6.below hb; have f7 := f7.below hb; have b0 := b0.below hb; have b1 := b1.below hb; have b2 := b2.below hb; have H0 := H0.trans (hb.mono H0.size); clear f7; have K5 := (And.intro (b0.cell 0 _ rfl) (And.intro (b0.cell 1 _ rfl) (And.intro (b0.cell 2 _ rfl) (And.intro (b1.cell 0 _ rfl) (And.intro (b1.cell 1 _ rfl) (b1.cell 2 _ rfl)))))); clear hb)
          | (go_at_call 62; have hK9 := K3; clear hK9; with_reducible refine (nden_v h).mono ?_; rintro e v4 ⟨A7, n7, c7, rfl, f7, hb⟩; have h := h.below hb; have h' := h'.below hb; have h1 := h1.below hb; have h1' := h1'.below hb; have f6 := f6.below hb; have b0 := b0.below hb; have b1 := b1.below hb; have b2 := b2.below hb; have H0 := H0.trans (hb.mono H0.size); have K4 := (And.intro (b0.cell 0 _ rfl) (And.intro (b0.cell 1 _ rfl) (And.intro (b0.cell 2 _ rfl) (And.intro (b1.cell 0 _ rfl) (And.intro (b1.cell 1 _ rfl) (b1.cell 2 _ rfl)))))); clear hb)
          | (go_at_call 60; have hK9 := K2; clear hK9; with_reducible refine (nmul_v h1 f5 (by omega) (by omega)).mono ?_; rintro e v3 ⟨s6, A6, n6, c6, rfl, f6, hb⟩; have h := h.below hb; have h' := h'.below hb; have h1 := h1.below hb; have h1' := h1'.below hb; have f5 := f5.below hb; have b0 := b0.below hb; have b1 := b1.below hb; have b2 := b2.below hb; have H0 := H0.trans (hb.mono H0.size); clear f5; have K3 := (And.intro (b0.cell 0 _ rfl) (And.intro (b0.cell 1 _ rfl) (And.intro (b0.cell 2 _ rfl) (And.intro (b1.cell 0 _ rfl) (And.intro (b1.cell 1 _ rfl) (b1.cell 2 _ rfl)))))); clear hb)
          | (go_at_call 64; have hK9 := K1; clear hK9; with_reducible refine (nmake_v false f4 rfl).mono ?_; rintro e v2 ⟨s5, rfl, f5, hb⟩; have h := h.below hb; have h' := h'.below hb; have h1 := h1.below hb; have h1' := h1'.below hb; have f4 := f4.below hb; have b0 := b0.below hb; have b1 := b1.below hb; have b2 := b2.below hb; have H0 := H0.trans (hb.mono H0.size); clear f4; have K2 := (And.intro (b0.cell 0 _ rfl) (And.intro (b0.cell 1 _ rfl) (And.intro (b0.cell 2 _ rfl) (And.intro (b1.cell 0 _ rfl) (And.intro (b1.cell 1 _ rfl) (b1.cell 2 _ rfl)))))); clear hb)
          | (go_at_call 62; have hK9 := K0; clear hK9; with_reducible refine (nden_v h').mono ?_; rintro e v1 ⟨A4, n4, c4, rfl, f4, hb⟩; have h := h.below hb; have h' := h'.below hb; have h1 := h1.below hb; have h1' := h1'.below hb; have b0 := b0.below hb; have b1 := b1.below hb; have b2 := b2.below hb; have H0 := H0.trans (hb.mono H0.size); have K1 := (And.intro (b0.cell 0 _ rfl) (And.intro (b0.cell 1 _ rfl) (And.intro (b0.cell 2 _ rfl) (And.intro (b1.cell 0 _ rfl) (And.intro (b1.cell 1 _ rfl) (b1.cell 2 _ rfl)))))); clear hb)
        )
      have hB := b2.stored3 (.bool s3) (.slice A3 n3 c3) (.slice D3 m3 e3)
      go_wp2_with fail
      generalize hX : (((v11.setCell ⟨w.heap.size + 1 + 1, 0, none⟩ (.bool s3)).setCell ⟨w.heap.size + 1 + 1, 1, none⟩ (.slice A3 n3 c3)).setCell ⟨w.heap.size + 1 + 1, 2, none⟩ (.slice D3 m3 e3)) = X12 at hg hB ⊢
      clear hX r0 f_0 r1 f_1 r2 f_2
      replace h := h.kept b2 (by simp [notInt]) hg
      replace h' := h'.kept b2 (by simp [notInt]) hg
      replace h1 := h1.kept b2 (by simp [notInt]) hg
      replace h1' := h1'.kept b2 (by simp [notInt]) hg
      replace fq := fq.kept b2 (by simp [notInt]) hg
      replace b0 := b0.other hg (by omega)
      replace b1 := b1.other hg (by omega)
      replace b2 := hB
      replace H0 := below_only H0 hg (by omega) H0.size
      clear hg hB
      refine bodyPost_ret (ret_numq rfl rfl b2) rfl ?_
      exact ⟨s3, A3, n3, c3, D3, m3, e3, rfl, by rw [HE.out]; exact fq, H0⟩
  · rcases Decidable.em (q'.den = 1) with hq' | hq'
    · have h1 := h.1
      have h1' := h'.1
      have hm := nv_pos (h.den1 hq) (Nat.pos_of_ne_zero q.den_nz)
      have hm1 : ((m0 : Int) == 0) = false := by rw [beq_eq_false_iff_ne]; omega
      have hm' := nv_zero (h'.den0 hq')
      have HE : Hid (q + q' = mkRat (q.num * sg false q'.den + q'.num * sg false q.den) (q.den * q'.den)) := Lib.hid (Rat.add_def' q q')
      have HN : Hid (q.den * q'.den ≠ 0) := Lib.hid (Nat.mul_ne_zero q.den_nz q'.den_nz)
      subst hm'
      clear hq hq'
      go_enter Tryz.func39, Tryz.ntmps39
      go_wp2_with fail
      obtain ⟨W0, hW, b0, b1, b2, hbW, hszW0⟩ := boxes3 w #[.bool s0, .slice A0 n0 c0, .slice D0 m0 e0] #[.bool s1, .slice A1 n1 c1, .slice D1 0 e1] #[.bool false, .slice none 0 0, .slice none 0 0] 49 49 49
      rw [hW]
      clear hW
      replace h := h.below hbW
      replace h' := h'.below hbW
      replace h1 := h1.below hbW
      replace h1' := h1'.below hbW
      have H0 := hbW
      clear hbW
      have cb00 := b0.cell 0 _ rfl
      have cb01 := b0.cell 1 _ rfl
      have cb02 := b0.cell 2 _ rfl
      have cb10 := b1.cell 0 _ rfl
      have cb11 := b1.cell 1 _ rfl
      have cb12 := b1.cell 2 _ rfl
      go_wp2_with fail
      clear cb00 cb01 cb02 cb10 cb11 cb12
      have hD := drawn_below W0
      replace h := h.below hD
      replace h' := h'.below hD
      replace h1 := h1.below hD
      replace h1' := h1'.below hD
      replace b0 := b0.below hD
      replace b1 := b1.below hD
      replace b2 := b2.below hD
      replace H0 := H0.trans (hD.mono H0.size)
      clear hD
      have K0 := (And.intro (b0.cell 0 _ rfl) (And.intro (b0.cell 1 _ rfl) (And.intro (b0.cell 2 _ rfl) (And.intro (b1.cell 0 _ rfl) (And.intro (b1.cell 1 _ rfl) (b1.cell 2 _ rfl))))))
      go_region_held3 (fun V => V.cell? ⟨w.heap.size, 0, none⟩ = some (.bool s0) ∧ V.cell? ⟨w.heap.size, 1, none⟩ = some (.slice A0 n0 c0) ∧ V.cell? ⟨w.heap.size, 2, none⟩ = some (.slice D0 m0 e0) ∧ V.cell? ⟨w.heap.size + 1, 0, none⟩ = some (.bool s1) ∧ V.cell? ⟨w.heap.size + 1, 1, none⟩ = some (.slice A1 n1 c1) ∧ V.cell? ⟨w.heap.size + 1, 2, none⟩ = some (.slice D1 0 e1)) (first | exact KS | exact K11 | exact K10 | exact K9 | exact K8 | exact K7 | exact K6 | exact K5 | exact K4 | exact K3 | exact K2 | exact K1 | exact K0 | go_keep)
        (first
          | (go_at_call 54; have hK9 := K10; clear hK9; with_reducible refine (nfrac_v (L := max L 1 + max L0 1 + 1) (f10.more (by omega)) (NV.more f13 (by omega)) HN.out (by omega)).mono ?_; rintro e v11 ⟨s3, A3, n3, c3, D3, m3, e3, rfl, fq, hb⟩; have h := h.below hb; have h' := h'.below hb; have h1 := h1.below hb; have h1' := h1'.below hb; have f10 := f10.below hb; have f13 := f13.below hb; have b0 := b0.below hb; have b1 := b1.below hb; have b2 := b2.below hb; have H0 := H0.trans (hb.mono H0.size); clear f10; clear f13; have K11 := (And.intro (b0.cell 0 _ rfl) (And.intro (b0.cell 1 _ rfl) (And.intro (b0.cell 2 _ rfl) (And.intro (b1.cell 0 _ rfl) (And.intro (b1.cell 1 _ rfl) (b1.cell 2 _ rfl)))))); have r0 := b2.cell 0 _ rfl; have f_0 := b2.frozen 0; have r1 := b2.cell 1 _ rfl; have f_1 := b2.frozen 1; have r2 := b2.cell 2 _ rfl; have f_2 := b2.frozen 2; have hg := only_store3 v11 (w.heap.size + 1 + 1) (.bool s3) (.slice A3 n3 c3) (.slice D3 m3 e3); have KS := (And.intro ((b0.other hg (by omega)).cell 0 _ rfl) (And.intro ((b0.other hg (by omega)).cell 1 _ rfl) (And.intro ((b0.other hg (by omega)).cell 2 _ rfl) (And.intro ((b1.other hg (by omega)).cell 0 _ rfl) (And.intro ((b1.other hg (by omega)).cell 1 _ rfl) ((b1.other hg (by omega)).cell 2 _ rfl)))))); clear hb)
          | (go_at_call 61; have hK9 := K9; clear hK9; with_reducible refine (nprod_v f11 f12 (by omega) (by omega)).mono ?_; rintro e v10 ⟨A13, n13, c13, rfl, f13, hb⟩; have h := h.below hb; have h' := h'.below hb; have h1 := h1.below hb; have h1' := h1'.below hb; have f10 := f10.below hb; have f11 := f11.below hb; have f12 := f12.below hb; have b0 := b0.below hb; have b1 := b1.below hb; have b2 := b2.below hb; have H0 := H0.trans (hb.mono H0.size); clear f11; clear f12; have K10 := (And.intro (b0.cell 0 _ rfl) (And.intro (b0.cell 1 _ rfl) (And.intro (b0.cell 2 _ rfl) (And.intro (b1.cell 0 _ rfl) (And.intro (b1.cell 1 _ rfl) (b1.cell 2 _ rfl)))))); clear hb)
          | (go_at_call 62; have hK9 := K8; clear hK9; with_reducible refine (nden_v h').mono ?_; rintro e v9 ⟨A12, n12, c12, rfl, f12, hb⟩; have h := h.below hb; have h' := h'.below hb; have h1 := h1.below hb; have h1' := h1'.below hb; have f10 := f10.below hb; have f11 := f11.below hb; have b0 := b0.below hb; have b1 := b1.below hb; have b2 := b2.below hb; have H0 := H0.trans (hb.mono H0.size); have K9 := (And.intro (b0.cell 0 _ rfl) (And.intro (b0.cell 1 _ rfl) (And.intro (b0.cell 2 _ rfl) (And.intro (b1.cell 0 _ rfl) (And.intro (b1.cell 1 _ rfl) (b1.cell 2 _ rfl)))))); clear hb)
          | (go_at_call 62; have hK9 := K7; clear hK9; with_reducible refine (nden_v h).mono ?_; rintro e v8 ⟨A11, n11, c11, rfl, f11, hb⟩; have h := h.below hb; have h' := h'.below hb; have h1 := h1.below hb; have h1' := h1'.below hb; have f10 := f10.below hb; have b0 := b0.below hb; have b1 := b1.below hb; have b2 := b2.below hb; have H0 := H0.trans (hb.mono H0.size); have K8 := (And.intro (b0.cell 0 _ rfl) (And.intro (b0.cell 1 _ rfl) (And.intro (b0.cell 2 _ rfl) (And.intro (b1.cell 0 _ rfl) (And.intro (b1.cell 1 _ rfl) (b1.cell 2 _ rfl)))))); clear hb)
          | (go_at_call 63; have hK9 := K6; clear hK9; with_reducible refine (nadd_v f6 f9 (by omega) (by omega)).mono ?_; rintro e v7 ⟨s10, A10, n10, c10, rfl, f10, hb⟩; have h := h.below hb; have h' := h'.below hb; have h1 := h1.below hb; have h1' := h1'.below hb; have f6 := f6.below hb; have f9 := f9.below hb; have b0 := b0.below hb; have b1 := b1.below hb; have b2 := b2.below hb; have H0 := H0.trans (hb.mono H0.size); clear f6; clear f9; have K7 := (And.intro (b0.cell 0 _ rfl) (And.intro (b0.cell 1 _ rfl) (And.intro (b0.cell 2 _ rfl) (And.intro (b1.cell 0 _ rfl) (And.intro (b1.cell 1 _ rfl) (b1.cell 2 _ rfl)))))); clear hb)
          | (go_at_call 60; have hK9 := K5; clear hK9; with_reducible refine (nmul_v h1' f8 (by omega) (by omega)).mono ?_; rintro e v6 ⟨s9, A9, n9, c9, rfl, f9, hb⟩; have h := h.below hb; have h' := h'.below hb; have h1 := h1.below hb; have h1' := h1'.below hb; have f6 := f6.below hb; have f8 := f8.below hb; have b0 := b0.below hb; have b1 := b1.below hb; have b2 := b2.below hb; have H0 := H0.trans (hb.mono H0.size); clear f8; have K6 := (And.intro (b0.cell 0 _ rfl) (And.intro (b0.cell 1 _ rfl) (And.intro (b0.cell 2 _ rfl) (And.intro (b1.cell 0 _ rfl) (And.intro (b1.cell 1 _ rfl) (b1.cell 2 _ rfl)))))); clear hb)
          | (go_at_call 64; have hK9 := K4; clear hK9; with_reducible refine (nmake_v false f7 rfl).mono ?_; rintro e v5 ⟨s8, rfl, f8, hb⟩; have h := h.below hb; have h' := h'.below hb; have h1 := h1.below hb; have h1' := h1'.below hb; have f6 := f6.below hb; have f7 := f7.below hb; have b0 := b0.below hb; have b1 := b1.below hb; have b2 := b2.below hb; have H0 := H0.trans (hb.mono H0.size); clear f7; have K5 := (And.intro (b0.cell 0 _ rfl) (And.intro (b0.cell 1 _ rfl) (And.intro (b0.cell 2 _ rfl) (And.intro (b1.cell 0 _ rfl) (And.intro (b1.cell 1 _ rfl) (b1.cell 2 _ rfl)))))); clear hb)
          | (go_at_call 62; have hK9 := K3; clear hK9; with_reducible refine (nden_v h).mono ?_; rintro e v4 ⟨A7, n7, c7, rfl, f7, hb⟩; have h := h.below hb; have h' := h'.below hb; have h1 := h1.below hb; have h1' := h1'.below hb; have f6 := f6.below hb; have b0 := b0.below hb; have b1 := b1.below hb; have b2 := b2.below hb; have H0 := H0.trans (hb.mono H0.size); have K4 := (And.intro (b0.cell 0 _ rfl) (And.intro (b0.cell 1 _ rfl) (And.intro (b0.cell 2 _ rfl) (And.intro (b1.cell 0 _ rfl) (And.intro (b1.cell 1 _ rfl) (b1.cell 2 _ rfl)))))); clear hb)
          | (go_at_call 60; have hK9 := K2; clear hK9; with_reducible refine (nmul_v h1 f5 (by omega) (by omega)).mono ?_; rintro e v3 ⟨s6, A6, n6, c6, rfl, f6, hb⟩; have h := h.below hb; have h' := h'.below hb; have h1 := h1.below hb; have h1' := h1'.below hb; have f5 := f5.below hb; have b0 := b0.below hb; have b1 := b1.below hb; have b2 := b2.below hb; have H0 := H0.trans (hb.mono H0.size); clear f5; have K3 := (And.intro (b0.cell 0 _ rfl) (And.intro (b0.cell 1 _ rfl) (And.intro (b0.cell 2 _ rfl) (And.intro (b1.cell 0 _ rfl) (And.intro (b1.cell 1 _ rfl) (b1.cell 2 _ rfl)))))); clear hb)
          | (go_at_call 64; have hK9 := K1; clear hK9; with_reducible refine (nmake_v false f4 rfl).mono ?_; rintro e v2 ⟨s5, rfl, f5, hb⟩; have h := h.below hb; have h' := h'.below hb; have h1 := h1.below hb; have h1' := h1'.below hb; have f4 := f4.below hb; have b0 := b0.below hb; have b1 := b1.below hb; have b2 := b2.below hb; have H0 := H0.trans (hb.mono H0.size); clear f4; have K2 := (And.intro (b0.cell 0 _ rfl) (And.intro (b0.cell 1 _ rfl) (And.intro (b0.cell 2 _ rfl) (And.intro (b1.cell 0 _ rfl) (And.intro (b1.cell 1 _ rfl) (b1.cell 2 _ rfl)))))); clear hb)
          | (go_at_call 62; have hK9 := K0; clear hK9; with_reducible refine (nden_v h').mono ?_; rintro e v1 ⟨A4, n4, c4, rfl, f4, hb⟩; have h := h.below hb; have h' := h'.below hb; have h1 := h1.below hb; have h1' := h1'.below hb; have b0 := b0.below hb; have b1 := b1.below hb; have b2 := b2.below hb; have H0 := H0.trans (hb.mono H0.size); have K1 := (And.intro (b0.cell 0 _ rfl) (And.intro (b0.cell 1 _ rfl) (And.intro (b0.cell 2 _ rfl) (And.intro (b1.cell 0 _ rfl) (And.intro (b1.cell 1 _ rfl) (b1.cell 2 _ rfl)))))); clear hb)
        )
      have hB := b2.stored3 (.bool s3) (.slice A3 n3 c3) (.slice D3 m3 e3)
      go_wp2_with fail
      generalize hX : (((v11.setCell ⟨w.heap.size + 1 + 1, 0, none⟩ (.bool s3)).setCell ⟨w.heap.size + 1 + 1, 1, none⟩ (.slice A3 n3 c3)).setCell ⟨w.heap.size + 1 + 1, 2, none⟩ (.slice D3 m3 e3)) = X12 at hg hB ⊢
      clear hX r0 f_0 r1 f_1 r2 f_2
      replace h := h.kept b2 (by simp [notInt]) hg
      replace h' := h'.kept b2 (by simp [notInt]) hg
      replace h1 := h1.kept b2 (by simp [notInt]) hg
      replace h1' := h1'.kept b2 (by simp [notInt]) hg
      replace fq := fq.kept b2 (by simp [notInt]) hg
      replace b0 := b0.other hg (by omega)
      replace b1 := b1.other hg (by omega)
      replace b2 := hB
      replace H0 := below_only H0 hg (by omega) H0.size
      clear hg hB
      refine bodyPost_ret (ret_numq rfl rfl b2) rfl ?_
      exact ⟨s3, A3, n3, c3, D3, m3, e3, rfl, by rw [HE.out]; exact fq, H0⟩
    · have h1 := h.1
      have h1' := h'.1
      have hm := nv_pos (h.den1 hq) (Nat.pos_of_ne_zero q.den_nz)
      have hm1 : ((m0 : Int) == 0) = false := by rw [beq_eq_false_iff_ne]; omega
      have hm' := nv_pos (h'.den1 hq') (Nat.pos_of_ne_zero q'.den_nz)
      have hm1' : ((m1 : Int) == 0) = false := by rw [beq_eq_false_iff_ne]; omega
      have HE : Hid (q + q' = mkRat (q.num * sg false q'.den + q'.num * sg false q.den) (q.den * q'.den)) := Lib.hid (Rat.add_def' q q')
      have HN : Hid (q.den * q'.den ≠ 0) := Lib.hid (Nat.mul_ne_zero q.den_nz q'.den_nz)
      clear hq hq'
      go_enter Tryz.func39, Tryz.ntmps39
      go_wp2_with fail
      obtain ⟨W0, hW, b0, b1, b2, hbW, hszW0⟩ := boxes3 w #[.bool s0, .slice A0 n0 c0, .slice D0 m0 e0] #[.bool s1, .slice A1 n1 c1, .slice D1 m1 e1] #[.bool false, .slice none 0 0, .slice none 0 0] 49 49 49
      rw [hW]
      clear hW
      replace h := h.below hbW
      replace h' := h'.below hbW
      replace h1 := h1.below hbW
      replace h1' := h1'.below hbW
      have H0 := hbW
      clear hbW
      have cb00 := b0.cell 0 _ rfl
      have cb01 := b0.cell 1 _ rfl
      have cb02 := b0.cell 2 _ rfl
      have cb10 := b1.cell 0 _ rfl
      have cb11 := b1.cell 1 _ rfl
      have cb12 := b1.cell 2 _ rfl
      go_wp2_with fail
      clear cb00 cb01 cb02 cb10 cb11 cb12
      have hD := drawn_below W0
      replace h := h.below hD
      replace h' := h'.below hD
      replace h1 := h1.below hD
      replace h1' := h1'.below hD
      replace b0 := b0.below hD
      replace b1 := b1.below hD
      replace b2 := b2.below hD
      replace H0 := H0.trans (hD.mono H0.size)
      clear hD
      have K0 := (And.intro (b0.cell 0 _ rfl) (And.intro (b0.cell 1 _ rfl) (And.intro (b0.cell 2 _ rfl) (And.intro (b1.cell 0 _ rfl) (And.intro (b1.cell 1 _ rfl) (b1.cell 2 _ rfl))))))
      go_region_held3 (fun V => V.cell? ⟨w.heap.size, 0, none⟩ = some (.bool s0) ∧ V.cell? ⟨w.heap.size, 1, none⟩ = some (.slice A0 n0 c0) ∧ V.cell? ⟨w.heap.size, 2, none⟩ = some (.slice D0 m0 e0) ∧ V.cell? ⟨w.heap.size + 1, 0, none⟩ = some (.bool s1) ∧ V.cell? ⟨w.heap.size + 1, 1, none⟩ = some (.slice A1 n1 c1) ∧ V.cell? ⟨w.heap.size + 1, 2, none⟩ = some (.slice D1 m1 e1)) (first | exact KS | exact K11 | exact K10 | exact K9 | exact K8 | exact K7 | exact K6 | exact K5 | exact K4 | exact K3 | exact K2 | exact K1 | exact K0 | go_keep)
        (first
          | (go_at_call 54; have hK9 := K10; clear hK9; with_reducible refine (nfrac_v (L := max L 1 + max L0 1 + 1) (f10.more (by omega)) (NV.more f13 (by omega)) HN.out (by omega)).mono ?_; rintro e v11 ⟨s3, A3, n3, c3, D3, m3, e3, rfl, fq, hb⟩; have h := h.below hb; have h' := h'.below hb; have h1 := h1.below hb; have h1' := h1'.below hb; have f10 := f10.below hb; have f13 := f13.below hb; have b0 := b0.below hb; have b1 := b1.below hb; have b2 := b2.below hb; have H0 := H0.trans (hb.mono H0.size); clear f10; clear f13; have K11 := (And.intro (b0.cell 0 _ rfl) (And.intro (b0.cell 1 _ rfl) (And.intro (b0.cell 2 _ rfl) (And.intro (b1.cell 0 _ rfl) (And.intro (b1.cell 1 _ rfl) (b1.cell 2 _ rfl)))))); have r0 := b2.cell 0 _ rfl; have f_0 := b2.frozen 0; have r1 := b2.cell 1 _ rfl; have f_1 := b2.frozen 1; have r2 := b2.cell 2 _ rfl; have f_2 := b2.frozen 2; have hg := only_store3 v11 (w.heap.size + 1 + 1) (.bool s3) (.slice A3 n3 c3) (.slice D3 m3 e3); have KS := (And.intro ((b0.other hg (by omega)).cell 0 _ rfl) (And.intro ((b0.other hg (by omega)).cell 1 _ rfl) (And.intro ((b0.other hg (by omega)).cell 2 _ rfl) (And.intro ((b1.other hg (by omega)).cell 0 _ rfl) (And.intro ((b1.other hg (by omega)).cell 1 _ rfl) ((b1.other hg (by omega)).cell 2 _ rfl)))))); clear hb)
          | (go_at_call 61; have hK9 := K9; clear hK9; with_reducible refine (nprod_v f11 f12 (by omega) (by omega)).mono ?_; rintro e v10 ⟨A13, n13, c13, rfl, f13, hb⟩; have h := h.below hb; have h' := h'.below hb; have h1 := h1.below hb; have h1' := h1'.below hb; have f10 := f10.below hb; have f11 := f11.below hb; have f12 := f12.below hb; have b0 := b0.below hb; have b1 := b1.below hb; have b2 := b2.below hb; have H0 := H0.trans (hb.mono H0.size); clear f11; clear f12; have K10 := (And.intro (b0.cell 0 _ rfl) (And.intro (b0.cell 1 _ rfl) (And.intro (b0.cell 2 _ rfl) (And.intro (b1.cell 0 _ rfl) (And.intro (b1.cell 1 _ rfl) (b1.cell 2 _ rfl)))))); clear hb)
          | (go_at_call 62; have hK9 := K8; clear hK9; with_reducible refine (nden_v h').mono ?_; rintro e v9 ⟨A12, n12, c12, rfl, f12, hb⟩; have h := h.below hb; have h' := h'.below hb; have h1 := h1.below hb; have h1' := h1'.below hb; have f10 := f10.below hb; have f11 := f11.below hb; have b0 := b0.below hb; have b1 := b1.below hb; have b2 := b2.below hb; have H0 := H0.trans (hb.mono H0.size); have K9 := (And.intro (b0.cell 0 _ rfl) (And.intro (b0.cell 1 _ rfl) (And.intro (b0.cell 2 _ rfl) (And.intro (b1.cell 0 _ rfl) (And.intro (b1.cell 1 _ rfl) (b1.cell 2 _ rfl)))))); clear hb)
          | (go_at_call 62; have hK9 := K7; clear hK9; with_reducible refine (nden_v h).mono ?_; rintro e v8 ⟨A11, n11, c11, rfl, f11, hb⟩; have h := h.below hb; have h' := h'.below hb; have h1 := h1.below hb; have h1' := h1'.below hb; have f10 := f10.below hb; have b0 := b0.below hb; have b1 := b1.below hb; have b2 := b2.below hb; have H0 := H0.trans (hb.mono H0.size); have K8 := (And.intro (b0.cell 0 _ rfl) (And.intro (b0.cell 1 _ rfl) (And.intro (b0.cell 2 _ rfl) (And.intro (b1.cell 0 _ rfl) (And.intro (b1.cell 1 _ rfl) (b1.cell 2 _ rfl)))))); clear hb)
          | (go_at_call 63; have hK9 := K6; clear hK9; with_reducible refine (nadd_v f6 f9 (by omega) (by omega)).mono ?_; rintro e v7 ⟨s10, A10, n10, c10, rfl, f10, hb⟩; have h := h.below hb; have h' := h'.below hb; have h1 := h1.below hb; have h1' := h1'.below hb; have f6 := f6.below hb; have f9 := f9.below hb; have b0 := b0.below hb; have b1 := b1.below hb; have b2 := b2.below hb; have H0 := H0.trans (hb.mono H0.size); clear f6; clear f9; have K7 := (And.intro (b0.cell 0 _ rfl) (And.intro (b0.cell 1 _ rfl) (And.intro (b0.cell 2 _ rfl) (And.intro (b1.cell 0 _ rfl) (And.intro (b1.cell 1 _ rfl) (b1.cell 2 _ rfl)))))); clear hb)
          | (go_at_call 60; have hK9 := K5; clear hK9; with_reducible refine (nmul_v h1' f8 (by omega) (by omega)).mono ?_; rintro e v6 ⟨s9, A9, n9, c9, rfl, f9, hb⟩; have h := h.below hb; have h' := h'.below hb; have h1 := h1.below hb; have h1' := h1'.below hb; have f6 := f6.below hb; have f8 := f8.below hb; have b0 := b0.below hb; have b1 := b1.below hb; have b2 := b2.below hb; have H0 := H0.trans (hb.mono H0.size); clear f8; have K6 := (And.intro (b0.cell 0 _ rfl) (And.intro (b0.cell 1 _ rfl) (And.intro (b0.cell 2 _ rfl) (And.intro (b1.cell 0 _ rfl) (And.intro (b1.cell 1 _ rfl) (b1.cell 2 _ rfl)))))); clear hb)
          | (go_at_call 64; have hK9 := K4; clear hK9; with_reducible refine (nmake_v false f7 rfl).mono ?_; rintro e v5 ⟨s8, rfl, f8, hb⟩; have h := h.below hb; have h' := h'.below hb; have h1 := h1.below hb; have h1' := h1'.below hb; have f6 := f6.below hb; have f7 := f7.below hb; have b0 := b0.below hb; have b1 := b1.below hb; have b2 := b2.below hb; have H0 := H0.trans (hb.mono H0.size); clear f7; have K5 := (And.intro (b0.cell 0 _ rfl) (And.intro (b0.cell 1 _ rfl) (And.intro (b0.cell 2 _ rfl) (And.intro (b1.cell 0 _ rfl) (And.intro (b1.cell 1 _ rfl) (b1.cell 2 _ rfl)))))); clear hb)
          | (go_at_call 62; have hK9 := K3; clear hK9; with_reducible refine (nden_v h).mono ?_; rintro e v4 ⟨A7, n7, c7, rfl, f7, hb⟩; have h := h.below hb; have h' := h'.below hb; have h1 := h1.below hb; have h1' := h1'.below hb; have f6 := f6.below hb; have b0 := b0.below hb; have b1 := b1.below hb; have b2 := b2.below hb; have H0 := H0.trans (hb.mono H0.size); have K4 := (And.intro (b0.cell 0 _ rfl) (And.intro (b0.cell 1 _ rfl) (And.intro (b0.cell 2 _ rfl) (And.intro (b1.cell 0 _ rfl) (And.intro (b1.cell 1 _ rfl) (b1.cell 2 _ rfl)))))); clear hb)
          | (go_at_call 60; have hK9 := K2; clear hK9; with_reducible refine (nmul_v h1 f5 (by omega) (by omega)).mono ?_; rintro e v3 ⟨s6, A6, n6, c6, rfl, f6, hb⟩; have h := h.below hb; have h' := h'.below hb; have h1 := h1.below hb; have h1' := h1'.below hb; have f5 := f5.below hb; have b0 := b0.below hb; have b1 := b1.below hb; have b2 := b2.below hb; have H0 := H0.trans (hb.mono H0.size); clear f5; have K3 := (And.intro (b0.cell 0 _ rfl) (And.intro (b0.cell 1 _ rfl) (And.intro (b0.cell 2 _ rfl) (And.intro (b1.cell 0 _ rfl) (And.intro (b1.cell 1 _ rfl) (b1.cell 2 _ rfl)))))); clear hb)
          | (go_at_call 64; have hK9 := K1; clear hK9; with_reducible refine (nmake_v false f4 rfl).mono ?_; rintro e v2 ⟨s5, rfl, f5, hb⟩; have h := h.below hb; have h' := h'.below hb; have h1 := h1.below hb; have h1' := h1'.below hb; have f4 := f4.below hb; have b0 := b0.below hb; have b1 := b1.below hb; have b2 := b2.below hb; have H0 := H0.trans (hb.mono H0.size); clear f4; have K2 := (And.intro (b0.cell 0 _ rfl) (And.intro (b0.cell 1 _ rfl) (And.intro (b0.cell 2 _ rfl) (And.intro (b1.cell 0 _ rfl) (And.intro (b1.cell 1 _ rfl) (b1.cell 2 _ rfl)))))); clear hb)
          | (go_at_call 62; have hK9 := K0; clear hK9; with_reducible refine (nden_v h').mono ?_; rintro e v1 ⟨A4, n4, c4, rfl, f4, hb⟩; have h := h.below hb; have h' := h'.below hb; have h1 := h1.below hb; have h1' := h1'.below hb; have b0 := b0.below hb; have b1 := b1.below hb; have b2 := b2.below hb; have H0 := H0.trans (hb.mono H0.size); have K1 := (And.intro (b0.cell 0 _ rfl) (And.intro (b0.cell 1 _ rfl) (And.intro (b0.cell 2 _ rfl) (And.intro (b1.cell 0 _ rfl) (And.intro (b1.cell 1 _ rfl) (b1.cell 2 _ rfl)))))); clear hb)
        )
      have hB := b2.stored3 (.bool s3) (.slice A3 n3 c3) (.slice D3 m3 e3)
      go_wp2_with fail
      generalize hX : (((v11.setCell ⟨w.heap.size + 1 + 1, 0, none⟩ (.bool s3)).setCell ⟨w.heap.size + 1 + 1, 1, none⟩ (.slice A3 n3 c3)).setCell ⟨w.heap.size + 1 + 1, 2, none⟩ (.slice D3 m3 e3)) = X12 at hg hB ⊢
      clear hX r0 f_0 r1 f_1 r2 f_2
      replace h := h.kept b2 (by simp [notInt]) hg
      replace h' := h'.kept b2 (by simp [notInt]) hg
      replace h1 := h1.kept b2 (by simp [notInt]) hg
      replace h1' := h1'.kept b2 (by simp [notInt]) hg
      replace fq := fq.kept b2 (by simp [notInt]) hg
      replace b0 := b0.other hg (by omega)
      replace b1 := b1.other hg (by omega)
      replace b2 := hB
      replace H0 := below_only H0 hg (by omega) H0.size
      clear hg hB
      refine bodyPost_ret (ret_numq rfl rfl b2) rfl ?_
      exact ⟨s3, A3, n3, c3, D3, m3, e3, rfl, by rw [HE.out]; exact fq, H0⟩
set_option maxRecDepth 100000 in
set_option maxHeartbeats 800000 in
theorem ntimes_v (h : PQ w s0 (.slice A0 n0 c0) (.slice D0 m0 e0) q L) (h' : PQ w s1 (.slice A1 n1 c1) (.slice D1 m1 e1) q' L0) (hL : L ≤ 100) (hL' : L0 ≤ 100) :
    Calls Tryz.prog 38 #[.agg #[.bool s0, .slice A0 n0 c0, .slice D0 m0 e0], .agg #[.bool s1, .slice A1 n1 c1, .slice D1 m1 e1]] w fun e w' => ∃ s3 A3 n3 c3 D3 m3 e3, e = .returned (.agg #[.bool s3, .slice A3 n3 c3, .slice D3 m3 e3]) ∧ PQ w' s3 (.slice A3 n3 c3) (.slice D3 m3 e3) (q*q') (max L 1 + max L0 1 + 1) ∧ Below w.heap.size w w' := by
  rcases Decidable.em (q.den = 1) with hq | hq
  · rcases Decidable.em (q'.den = 1) with hq' | hq'
    · have h1 := h.1
      have h1' := h'.1
      have hm := nv_zero (h.den0 hq)
      have hm' := nv_zero (h'.den0 hq')
      have HE : Hid (q * q' = ((q.num * q'.num : Int) : Rat)) := Lib.hid (by rw [rat_int hq, rat_int hq']; simp)
      clear h h'
      subst hm
      subst hm'
      clear hq hq'
      go_enter Tryz.func38, Tryz.ntmps38
      go_wp2_with fail
      obtain ⟨W0, hW, b0, b1, b2, hbW, hszW0⟩ := boxes3 w #[.bool s0, .slice A0 n0 c0, .slice D0 0 e0] #[.bool s1, .slice A1 n1 c1, .slice D1 0 e1] #[.bool false, .slice none 0 0, .slice none 0 0] 49 49 49
      rw [hW]
      clear hW
      replace h1 := h1.below hbW
      replace h1' := h1'.below hbW
      have H0 := hbW
      clear hbW
      have cb00 := b0.cell 0 _ rfl
      have cb01 := b0.cell 1 _ rfl
      have cb02 := b0.cell 2 _ rfl
      have cb10 := b1.cell 0 _ rfl
      have cb11 := b1.cell 1 _ rfl
      have cb12 := b1.cell 2 _ rfl
      go_wp2_with fail
      clear cb00 cb01 cb02 cb10 cb11 cb12
      refine (nmul_v h1 h1' (by omega) (by omega)).mono ?_
      rintro e w1 ⟨s3, A3, n3, c3, rfl, fi, hb⟩
      replace h1 := h1.below hb
      replace h1' := h1'.below hb
      replace b0 := b0.below hb
      replace b1 := b1.below hb
      replace b2 := b2.below hb
      replace H0 := H0.trans (hb.mono H0.size)
      clear hb
      have cb20 := b2.cell 0 _ rfl
      have yb20 := b2.frozen 0
      have cb21 := b2.cell 1 _ rfl
      have yb21 := b2.frozen 1
      have cb22 := b2.cell 2 _ rfl
      have yb22 := b2.frozen 2
      go_wp2_with fail
      clear cb20 yb20 cb21 yb21 cb22 yb22
      have hg := only_store3 w1 (w.heap.size + 1 + 1) (.bool s3) (.slice A3 n3 c3) (.slice none 0 0)
      have hB := b2.stored3 (.bool s3) (.slice A3 n3 c3) (.slice none 0 0)
      generalize hX : (((w1.setCell ⟨w.heap.size + 1 + 1, 0, none⟩ (.bool s3)).setCell ⟨w.heap.size + 1 + 1, 1, none⟩ (.slice A3 n3 c3)).setCell ⟨w.heap.size + 1 + 1, 2, none⟩ (.slice none 0 0)) = X2 at hg hB ⊢
      clear hX
      replace h1 := h1.kept b2 (by simp [notInt]) hg
      replace h1' := h1'.kept b2 (by simp [notInt]) hg
      replace fi := fi.kept b2 (by simp [notInt]) hg
      replace b0 := b0.other hg (by omega)
      replace b1 := b1.other hg (by omega)
      replace b2 := hB
      replace H0 := below_only H0 hg (by omega) H0.size
      clear hg hB
      refine bodyPost_ret (ret_numq rfl rfl b2) rfl ?_
      exact ⟨s3, A3, n3, c3, none, 0, 0, rfl, by rw [HE.out]; exact PQ.int (fi.more (by omega)), H0⟩
    · have h1 := h.1
      have h1' := h'.1
      have hm := nv_zero (h.den0 hq)
      have hm' := nv_pos (h'.den1 hq') (Nat.pos_of_ne_zero q'.den_nz)
      have hm1' : ((m1 : Int) == 0) = false := by rw [beq_eq_false_iff_ne]; omega
      have HE : Hid (q * q' = mkRat (q.num * q'.num) (q.den * q'.den)) := Lib.hid (Rat.mul_def' q q')
      have HN : Hid (q.den * q'.den ≠ 0) := Lib.hid (Nat.mul_ne_zero q.den_nz q'.den_nz)
      subst hm
      clear hq hq'
      go_enter Tryz.func38, Tryz.ntmps38
      go_wp2_with fail
      obtain ⟨W0, hW, b0, b1, b2, hbW, hszW0⟩ := boxes3 w #[.bool s0, .slice A0 n0 c0, .slice D0 0 e0] #[.bool s1, .slice A1 n1 c1, .slice D1 m1 e1] #[.bool false, .slice none 0 0, .slice none 0 0] 49 49 49
      rw [hW]
      clear hW
      replace h := h.below hbW
      replace h' := h'.below hbW
      replace h1 := h1.below hbW
      replace h1' := h1'.below hbW
      have H0 := hbW
      clear hbW
      have cb00 := b0.cell 0 _ rfl
      have cb01 := b0.cell 1 _ rfl
      have cb02 := b0.cell 2 _ rfl
      have cb10 := b1.cell 0 _ rfl
      have cb11 := b1.cell 1 _ rfl
      have cb12 := b1.cell 2 _ rfl
      go_wp2_with fail
      clear cb00 cb01 cb02 cb10 cb11 cb12
      have hD := drawn_below W0
      replace h := h.below hD
      replace h' := h'.below hD
      replace h1 := h1.below hD
      replace h1' := h1'.below hD
      replace b0 := b0.below hD
      replace b1 := b1.below hD
      replace b2 := b2.below hD
      replace H0 := H0.trans (hD.mono H0.size)
      clear hD
      have K0 := (And.intro (b0.cell 0 _ rfl) (And.intro (b0.cell 1 _ rfl) (And.intro (b0.cell 2 _ rfl) (And.intro (b1.cell 0 _ rfl) (And.intro (b1.cell 1 _ rfl) (b1.cell 2 _ rfl))))))
      go_region_held3 (fun V => V.cell? ⟨w.heap.size, 0, none⟩ = some (.bool s0) ∧ V.cell? ⟨w.heap.size, 1, none⟩ = some (.slice A0 n0 c0) ∧ V.cell? ⟨w.heap.size, 2, none⟩ = some (.slice D0 0 e0) ∧ V.cell? ⟨w.heap.size + 1, 0, none⟩ = some (.bool s1) ∧ V.cell? ⟨w.heap.size + 1, 1, none⟩ = some (.slice A1 n1 c1) ∧ V.cell? ⟨w.heap.size + 1, 2, none⟩ = some (.slice D1 m1 e1)) (first | exact KS | exact K5 | exact K4 | exact K3 | exact K2 | exact K1 | exact K0 | go_keep)
        (first
          | (go_at_call 54; have hK9 := K4; clear hK9; with_reducible refine (nfrac_v (L := max L 1 + max L0 1 + 1) (f10.more (by omega)) (NV.more f13 (by omega)) HN.out (by omega)).mono ?_; rintro e v5 ⟨s3, A3, n3, c3, D3, m3, e3, rfl, fq, hb⟩; have h := h.below hb; have h' := h'.below hb; have h1 := h1.below hb; have h1' := h1'.below hb; have f10 := f10.below hb; have f13 := f13.below hb; have b0 := b0.below hb; have b1 := b1.below hb; have b2 := b2.below hb; have H0 := H0.trans (hb.mono H0.size); clear f10; clear f13; have K5 := (And.intro (b0.cell 0 _ rfl) (And.intro (b0.cell 1 _ rfl) (And.intro (b0.cell 2 _ rfl) (And.intro (b1.cell 0 _ rfl) (And.intro (b1.cell 1 _ rfl) (b1.cell 2 _ rfl)))))); have r0 := b2.cell 0 _ rfl; have f_0 := b2.frozen 0; have r1 := b2.cell 1 _ rfl; have f_1 := b2.frozen 1; have r2 := b2.cell 2 _ rfl; have f_2 := b2.frozen 2; have hg := only_store3 v5 (w.heap.size + 1 + 1) (.bool s3) (.slice A3 n3 c3) (.slice D3 m3 e3); have KS := (And.intro ((b0.other hg (by omega)).cell 0 _ rfl) (And.intro ((b0.other hg (by omega)).cell 1 _ rfl) (And.intro ((b0.other hg (by omega)).cell 2 _ rfl) (And.intro ((b1.other hg (by omega)).cell 0 _ rfl) (And.intro ((b1.other hg (by omega)).cell 1 _ rfl) ((b1.other hg (by omega)).cell 2 _ rfl)))))); clear hb)
          | (go_at_call 61; have hK9 := K3; clear hK9; with_reducible refine (nprod_v f11 f12 (by omega) (by omega)).mono ?_; rintro e v4 ⟨A13, n13, c13, rfl, f13, hb⟩; have h := h.below hb; have h' := h'.below hb; have h1 := h1.below hb; have h1' := h1'.below hb; have f10 := f10.below hb; have f11 := f11.below hb; have f12 := f12.below hb; have b0 := b0.below hb; have b1 := b1.below hb; have b2 := b2.below hb; have H0 := H0.trans (hb.mono H0.size); clear f11; clear f12; have K4 := (And.intro (b0.cell 0 _ rfl) (And.intro (b0.cell 1 _ rfl) (And.intro (b0.cell 2 _ rfl) (And.intro (b1.cell 0 _ rfl) (And.intro (b1.cell 1 _ rfl) (b1.cell 2 _ rfl)))))); clear hb)
          | (go_at_call 62; have hK9 := K2; clear hK9; with_reducible refine (nden_v h').mono ?_; rintro e v3 ⟨A12, n12, c12, rfl, f12, hb⟩; have h := h.below hb; have h' := h'.below hb; have h1 := h1.below hb; have h1' := h1'.below hb; have f10 := f10.below hb; have f11 := f11.below hb; have b0 := b0.below hb; have b1 := b1.below hb; have b2 := b2.below hb; have H0 := H0.trans (hb.mono H0.size); have K3 := (And.intro (b0.cell 0 _ rfl) (And.intro (b0.cell 1 _ rfl) (And.intro (b0.cell 2 _ rfl) (And.intro (b1.cell 0 _ rfl) (And.intro (b1.cell 1 _ rfl) (b1.cell 2 _ rfl)))))); clear hb)
          | (go_at_call 62; have hK9 := K1; clear hK9; with_reducible refine (nden_v h).mono ?_; rintro e v2 ⟨A11, n11, c11, rfl, f11, hb⟩; have h := h.below hb; have h' := h'.below hb; have h1 := h1.below hb; have h1' := h1'.below hb; have f10 := f10.below hb; have b0 := b0.below hb; have b1 := b1.below hb; have b2 := b2.below hb; have H0 := H0.trans (hb.mono H0.size); have K2 := (And.intro (b0.cell 0 _ rfl) (And.intro (b0.cell 1 _ rfl) (And.intro (b0.cell 2 _ rfl) (And.intro (b1.cell 0 _ rfl) (And.intro (b1.cell 1 _ rfl) (b1.cell 2 _ rfl)))))); clear hb)
          | (go_at_call 60; have hK9 := K0; clear hK9; with_reducible refine (nmul_v h1 h1' (by omega) (by omega)).mono ?_; rintro e v1 ⟨s10, A10, n10, c10, rfl, f10, hb⟩; have h := h.below hb; have h' := h'.below hb; have h1 := h1.below hb; have h1' := h1'.below hb; have b0 := b0.below hb; have b1 := b1.below hb; have b2 := b2.below hb; have H0 := H0.trans (hb.mono H0.size); have K1 := (And.intro (b0.cell 0 _ rfl) (And.intro (b0.cell 1 _ rfl) (And.intro (b0.cell 2 _ rfl) (And.intro (b1.cell 0 _ rfl) (And.intro (b1.cell 1 _ rfl) (b1.cell 2 _ rfl)))))); clear hb)
        )
      have hB := b2.stored3 (.bool s3) (.slice A3 n3 c3) (.slice D3 m3 e3)
      go_wp2_with fail
      generalize hX : (((v5.setCell ⟨w.heap.size + 1 + 1, 0, none⟩ (.bool s3)).setCell ⟨w.heap.size + 1 + 1, 1, none⟩ (.slice A3 n3 c3)).setCell ⟨w.heap.size + 1 + 1, 2, none⟩ (.slice D3 m3 e3)) = X6 at hg hB ⊢
      clear hX r0 f_0 r1 f_1 r2 f_2
      replace h := h.kept b2 (by simp [notInt]) hg
      replace h' := h'.kept b2 (by simp [notInt]) hg
      replace h1 := h1.kept b2 (by simp [notInt]) hg
      replace h1' := h1'.kept b2 (by simp [notInt]) hg
      replace fq := fq.kept b2 (by simp [notInt]) hg
      replace b0 := b0.other hg (by omega)
      replace b1 := b1.other hg (by omega)
      replace b2 := hB
      replace H0 := below_only H0 hg (by omega) H0.size
      clear hg hB
      refine bodyPost_ret (ret_numq rfl rfl b2) rfl ?_
      exact ⟨s3, A3, n3, c3, D3, m3, e3, rfl, by rw [HE.out]; exact fq, H0⟩
  · rcases Decidable.em (q'.den = 1) with hq' | hq'
    · have h1 := h.1
      have h1' := h'.1
      have hm := nv_pos (h.den1 hq) (Nat.pos_of_ne_zero q.den_nz)
      have hm1 : ((m0 : Int) == 0) = false := by rw [beq_eq_false_iff_ne]; omega
      have hm' := nv_zero (h'.den0 hq')
      have HE : Hid (q * q' = mkRat (q.num * q'.num) (q.den * q'.den)) := Lib.hid (Rat.mul_def' q q')
      have HN : Hid (q.den * q'.den ≠ 0) := Lib.hid (Nat.mul_ne_zero q.den_nz q'.den_nz)
      subst hm'
      clear hq hq'
      go_enter Tryz.func38, Tryz.ntmps38
      go_wp2_with fail
      obtain ⟨W0, hW, b0, b1, b2, hbW, hszW0⟩ := boxes3 w #[.bool s0, .slice A0 n0 c0, .slice D0 m0 e0] #[.bool s1, .slice A1 n1 c1, .slice D1 0 e1] #[.bool false, .slice none 0 0, .slice none 0 0] 49 49 49
      rw [hW]
      clear hW
      replace h := h.below hbW
      replace h' := h'.below hbW
      replace h1 := h1.below hbW
      replace h1' := h1'.below hbW
      have H0 := hbW
      clear hbW
      have cb00 := b0.cell 0 _ rfl
      have cb01 := b0.cell 1 _ rfl
      have cb02 := b0.cell 2 _ rfl
      have cb10 := b1.cell 0 _ rfl
      have cb11 := b1.cell 1 _ rfl
      have cb12 := b1.cell 2 _ rfl
      go_wp2_with fail
      clear cb00 cb01 cb02 cb10 cb11 cb12
      have hD := drawn_below W0
      replace h := h.below hD
      replace h' := h'.below hD
      replace h1 := h1.below hD
      replace h1' := h1'.below hD
      replace b0 := b0.below hD
      replace b1 := b1.below hD
      replace b2 := b2.below hD
      replace H0 := H0.trans (hD.mono H0.size)
      clear hD
      have K0 := (And.intro (b0.cell 0 _ rfl) (And.intro (b0.cell 1 _ rfl) (And.intro (b0.cell 2 _ rfl) (And.intro (b1.cell 0 _ rfl) (And.intro (b1.cell 1 _ rfl) (b1.cell 2 _ rfl))))))
      go_region_held3 (fun V => V.cell? ⟨w.heap.size, 0, none⟩ = some (.bool s0) ∧ V.cell? ⟨w.heap.size, 1, none⟩ = some (.slice A0 n0 c0) ∧ V.cell? ⟨w.heap.size, 2, none⟩ = some (.slice D0 m0 e0) ∧ V.cell? ⟨w.heap.size + 1, 0, none⟩ = some (.bool s1) ∧ V.cell? ⟨w.heap.size + 1, 1, none⟩ = some (.slice A1 n1 c1) ∧ V.cell? ⟨w.heap.size + 1, 2, none⟩ = some (.slice D1 0 e1)) (first | exact KS | exact K5 | exact K4 | exact K3 | exact K2 | exact K1 | exact K0 | go_keep)
        (first
          | (go_at_call 54; have hK9 := K4; clear hK9; with_reducible refine (nfrac_v (L := max L 1 + max L0 1 + 1) (f10.more (by omega)) (NV.more f13 (by omega)) HN.out (by omega)).mono ?_; rintro e v5 ⟨s3, A3, n3, c3, D3, m3, e3, rfl, fq, hb⟩; have h := h.below hb; have h' := h'.below hb; have h1 := h1.below hb; have h1' := h1'.below hb; have f10 := f10.below hb; have f13 := f13.below hb; have b0 := b0.below hb; have b1 := b1.below hb; have b2 := b2.below hb; have H0 := H0.trans (hb.mono H0.size); clear f10; clear f13; have K5 := (And.intro (b0.cell 0 _ rfl) (And.intro (b0.cell 1 _ rfl) (And.intro (b0.cell 2 _ rfl) (And.intro (b1.cell 0 _ rfl) (And.intro (b1.cell 1 _ rfl) (b1.cell 2 _ rfl)))))); have r0 := b2.cell 0 _ rfl; have f_0 := b2.frozen 0; have r1 := b2.cell 1 _ rfl; have f_1 := b2.frozen 1; have r2 := b2.cell 2 _ rfl; have f_2 := b2.frozen 2; have hg := only_store3 v5 (w.heap.size + 1 + 1) (.bool s3) (.slice A3 n3 c3) (.slice D3 m3 e3); have KS := (And.intro ((b0.other hg (by omega)).cell 0 _ rfl) (And.intro ((b0.other hg (by omega)).cell 1 _ rfl) (And.intro ((b0.other hg (by omega)).cell 2 _ rfl) (And.intro ((b1.other hg (by omega)).cell 0 _ rfl) (And.intro ((b1.other hg (by omega)).cell 1 _ rfl) ((b1.other hg (by omega)).cell 2 _ rfl)))))); clear hb)
          | (go_at_call 61; have hK9 := K3; clear hK9; with_reducible refine (nprod_v f11 f12 (by omega) (by omega)).mono ?_; rintro e v4 ⟨A13, n13, c13, rfl, f13, hb⟩; have h := h.below hb; have h' := h'.below hb; have h1 := h1.below hb; have h1' := h1'.below hb; have f10 := f10.below hb; have f11 := f11.below hb; have f12 := f12.below hb; have b0 := b0.below hb; have b1 := b1.below hb; have b2 := b2.below hb; have H0 := H0.trans (hb.mono H0.size); clear f11; clear f12; have K4 := (And.intro (b0.cell 0 _ rfl) (And.intro (b0.cell 1 _ rfl) (And.intro (b0.cell 2 _ rfl) (And.intro (b1.cell 0 _ rfl) (And.intro (b1.cell 1 _ rfl) (b1.cell 2 _ rfl)))))); clear hb)
          | (go_at_call 62; have hK9 := K2; clear hK9; with_reducible refine (nden_v h').mono ?_; rintro e v3 ⟨A12, n12, c12, rfl, f12, hb⟩; have h := h.below hb; have h' := h'.below hb; have h1 := h1.below hb; have h1' := h1'.below hb; have f10 := f10.below hb; have f11 := f11.below hb; have b0 := b0.below hb; have b1 := b1.below hb; have b2 := b2.below hb; have H0 := H0.trans (hb.mono H0.size); have K3 := (And.intro (b0.cell 0 _ rfl) (And.intro (b0.cell 1 _ rfl) (And.intro (b0.cell 2 _ rfl) (And.intro (b1.cell 0 _ rfl) (And.intro (b1.cell 1 _ rfl) (b1.cell 2 _ rfl)))))); clear hb)
          | (go_at_call 62; have hK9 := K1; clear hK9; with_reducible refine (nden_v h).mono ?_; rintro e v2 ⟨A11, n11, c11, rfl, f11, hb⟩; have h := h.below hb; have h' := h'.below hb; have h1 := h1.below hb; have h1' := h1'.below hb; have f10 := f10.below hb; have b0 := b0.below hb; have b1 := b1.below hb; have b2 := b2.below hb; have H0 := H0.trans (hb.mono H0.size); have K2 := (And.intro (b0.cell 0 _ rfl) (And.intro (b0.cell 1 _ rfl) (And.intro (b0.cell 2 _ rfl) (And.intro (b1.cell 0 _ rfl) (And.intro (b1.cell 1 _ rfl) (b1.cell 2 _ rfl)))))); clear hb)
          | (go_at_call 60; have hK9 := K0; clear hK9; with_reducible refine (nmul_v h1 h1' (by omega) (by omega)).mono ?_; rintro e v1 ⟨s10, A10, n10, c10, rfl, f10, hb⟩; have h := h.below hb; have h' := h'.below hb; have h1 := h1.below hb; have h1' := h1'.below hb; have b0 := b0.below hb; have b1 := b1.below hb; have b2 := b2.below hb; have H0 := H0.trans (hb.mono H0.size); have K1 := (And.intro (b0.cell 0 _ rfl) (And.intro (b0.cell 1 _ rfl) (And.intro (b0.cell 2 _ rfl) (And.intro (b1.cell 0 _ rfl) (And.intro (b1.cell 1 _ rfl) (b1.cell 2 _ rfl)))))); clear hb)
        )
      have hB := b2.stored3 (.bool s3) (.slice A3 n3 c3) (.slice D3 m3 e3)
      go_wp2_with fail
      generalize hX : (((v5.setCell ⟨w.heap.size + 1 + 1, 0, none⟩ (.bool s3)).setCell ⟨w.heap.size + 1 + 1, 1, none⟩ (.slice A3 n3 c3)).setCell ⟨w.heap.size + 1 + 1, 2, none⟩ (.slice D3 m3 e3)) = X6 at hg hB ⊢
      clear hX r0 f_0 r1 f_1 r2 f_2
      replace h := h.kept b2 (by simp [notInt]) hg
      replace h' := h'.kept b2 (by simp [notInt]) hg
      replace h1 := h1.kept b2 (by simp [notInt]) hg
      replace h1' := h1'.kept b2 (by simp [notInt]) hg
      replace fq := fq.kept b2 (by simp [notInt]) hg
      replace b0 := b0.other hg (by omega)
      replace b1 := b1.other hg (by omega)
      replace b2 := hB
      replace H0 := below_only H0 hg (by omega) H0.size
      clear hg hB
      refine bodyPost_ret (ret_numq rfl rfl b2) rfl ?_
      exact ⟨s3, A3, n3, c3, D3, m3, e3, rfl, by rw [HE.out]; exact fq, H0⟩
    · have h1 := h.1
      have h1' := h'.1
      have hm := nv_pos (h.den1 hq) (Nat.pos_of_ne_zero q.den_nz)
      have hm1 : ((m0 : Int) == 0) = false := by rw [beq_eq_false_iff_ne]; omega
      have hm' := nv_pos (h'.den1 hq') (Nat.pos_of_ne_zero q'.den_nz)
      have hm1' : ((m1 : Int) == 0) = false := by rw [beq_eq_false_iff_ne]; omega
      have HE : Hid (q * q' = mkRat (q.num * q'.num) (q.den * q'.den)) := Lib.hid (Rat.mul_def' q q')
      have HN : Hid (q.den * q'.den ≠ 0) := Lib.hid (Nat.mul_ne_zero q.den_nz q'.den_nz)
      clear hq hq'
      go_enter Tryz.func38, Tryz.ntmps38
      go_wp2_with fail
      obtain ⟨W0, hW, b0, b1, b2, hbW, hszW0⟩ := boxes3 w #[.bool s0, .slice A0 n0 c0, .slice D0 m0 e0] #[.bool s1, .slice A1 n1 c1, .slice D1 m1 e1] #[.bool false, .slice none 0 0, .slice none 0 0] 49 49 49
      rw [hW]
      clear hW
      replace h := h.below hbW
      replace h' := h'.below hbW
      replace h1 := h1.below hbW
      replace h1' := h1'.below hbW
      have H0 := hbW
      clear hbW
      have cb00 := b0.cell 0 _ rfl
      have cb01 := b0.cell 1 _ rfl
      have cb02 := b0.cell 2 _ rfl
      have cb10 := b1.cell 0 _ rfl
      have cb11 := b1.cell 1 _ rfl
      have cb12 := b1.cell 2 _ rfl
      go_wp2_with fail
      clear cb00 cb01 cb02 cb10 cb11 cb12
      have hD := drawn_below W0
      replace h := h.below hD
      replace h' := h'.below hD
      replace h1 := h1.below hD
      replace h1' := h1'.below hD
      replace b0 := b0.below hD
      replace b1 := b1.below hD
      replace b2 := b2.below hD
      replace H0 := H0.trans (hD.mono H0.size)
      clear hD
      have K0 := (And.intro (b0.cell 0 _ rfl) (And.intro (b0.cell 1 _ rfl) (And.intro (b0.cell 2 _ rfl) (And.intro (b1.cell 0 _ rfl) (And.intro (b1.cell 1 _ rfl) (b1.cell 2 _ rfl))))))
      go_region_held3 (fun V => V.cell? ⟨w.heap.size, 0, none⟩ = some (.bool s0) ∧ V.cell? ⟨w.heap.size, 1, none⟩ = some (.slice A0 n0 c0) ∧ V.cell? ⟨w.heap.size, 2, none⟩ = some (.slice D0 m0 e0) ∧ V.cell? ⟨w.heap.size + 1, 0, none⟩ = some (.bool s1) ∧ V.cell? ⟨w.heap.size + 1, 1, none⟩ = some (.slice A1 n1 c1) ∧ V.cell? ⟨w.heap.size + 1, 2, none⟩ = some (.slice D1 m1 e1)) (first | exact KS | exact K5 | exact K4 | exact K3 | exact K2 | exact K1 | exact K0 | go_keep)
        (first
          | (go_at_call 54; have hK9 := K4; clear hK9; with_reducible refine (nfrac_v (L := max L 1 + max L0 1 + 1) (f10.more (by omega)) (NV.more f13 (by omega)) HN.out (by omega)).mono ?_; rintro e v5 ⟨s3, A3, n3, c3, D3, m3, e3, rfl, fq, hb⟩; have h := h.below hb; have h' := h'.below hb; have h1 := h1.below hb; have h1' := h1'.below hb; have f10 := f10.below hb; have f13 := f13.below hb; have b0 := b0.below hb; have b1 := b1.below hb; have b2 := b2.below hb; have H0 := H0.trans (hb.mono H0.size); clear f10; clear f13; have K5 := (And.intro (b0.cell 0 _ rfl) (And.intro (b0.cell 1 _ rfl) (And.intro (b0.cell 2 _ rfl) (And.intro (b1.cell 0 _ rfl) (And.intro (b1.cell 1 _ rfl) (b1.cell 2 _ rfl)))))); have r0 := b2.cell 0 _ rfl; have f_0 := b2.frozen 0; have r1 := b2.cell 1 _ rfl; have f_1 := b2.frozen 1; have r2 := b2.cell 2 _ rfl; have f_2 := b2.frozen 2; have hg := only_store3 v5 (w.heap.size + 1 + 1) (.bool s3) (.slice A3 n3 c3) (.slice D3 m3 e3); have KS := (And.intro ((b0.other hg (by omega)).cell 0 _ rfl) (And.intro ((b0.other hg (by omega)).cell 1 _ rfl) (And.intro ((b0.other hg (by omega)).cell 2 _ rfl) (And.intro ((b1.other hg (by omega)).cell 0 _ rfl) (And.intro ((b1.other hg (by omega)).cell 1 _ rfl) ((b1.other hg (by omega)).cell 2 _ rfl)))))); clear hb)
          | (go_at_call 61; have hK9 := K3; clear hK9; with_reducible refine (nprod_v f11 f12 (by omega) (by omega)).mono ?_; rintro e v4 ⟨A13, n13, c13, rfl, f13, hb⟩; have h := h.below hb; have h' := h'.below hb; have h1 := h1.below hb; have h1' := h1'.below hb; have f10 := f10.below hb; have f11 := f11.below hb; have f12 := f12.below hb; have b0 := b0.below hb; have b1 := b1.below hb; have b2 := b2.below hb; have H0 := H0.trans (hb.mono H0.size); clear f11; clear f12; have K4 := (And.intro (b0.cell 0 _ rfl) (And.intro (b0.cell 1 _ rfl) (And.intro (b0.cell 2 _ rfl) (And.intro (b1.cell 0 _ rfl) (And.intro (b1.cell 1 _ rfl) (b1.cell 2 _ rfl)))))); clear hb)
          | (go_at_call 62; have hK9 := K2; clear hK9; with_reducible refine (nden_v h').mono ?_; rintro e v3 ⟨A12, n12, c12, rfl, f12, hb⟩; have h := h.below hb; have h' := h'.below hb; have h1 := h1.below hb; have h1' := h1'.below hb; have f10 := f10.below hb; have f11 := f11.below hb; have b0 := b0.below hb; have b1 := b1.below hb; have b2 := b2.below hb; have H0 := H0.trans (hb.mono H0.size); have K3 := (And.intro (b0.cell 0 _ rfl) (And.intro (b0.cell 1 _ rfl) (And.intro (b0.cell 2 _ rfl) (And.intro (b1.cell 0 _ rfl) (And.intro (b1.cell 1 _ rfl) (b1.cell 2 _ rfl)))))); clear hb)
          | (go_at_call 62; have hK9 := K1; clear hK9; with_reducible refine (nden_v h).mono ?_; rintro e v2 ⟨A11, n11, c11, rfl, f11, hb⟩; have h := h.below hb; have h' := h'.below hb; have h1 := h1.below hb; have h1' := h1'.below hb; have f10 := f10.below hb; have b0 := b0.below hb; have b1 := b1.below hb; have b2 := b2.below hb; have H0 := H0.trans (hb.mono H0.size); have K2 := (And.intro (b0.cell 0 _ rfl) (And.intro (b0.cell 1 _ rfl) (And.intro (b0.cell 2 _ rfl) (And.intro (b1.cell 0 _ rfl) (And.intro (b1.cell 1 _ rfl) (b1.cell 2 _ rfl)))))); clear hb)
          | (go_at_call 60; have hK9 := K0; clear hK9; with_reducible refine (nmul_v h1 h1' (by omega) (by omega)).mono ?_; rintro e v1 ⟨s10, A10, n10, c10, rfl, f10, hb⟩; have h := h.below hb; have h' := h'.below hb; have h1 := h1.below hb; have h1' := h1'.below hb; have b0 := b0.below hb; have b1 := b1.below hb; have b2 := b2.below hb; have H0 := H0.trans (hb.mono H0.size); have K1 := (And.intro (b0.cell 0 _ rfl) (And.intro (b0.cell 1 _ rfl) (And.intro (b0.cell 2 _ rfl) (And.intro (b1.cell 0 _ rfl) (And.intro (b1.cell 1 _ rfl) (b1.cell 2 _ rfl)))))); clear hb)
        )
      have hB := b2.stored3 (.bool s3) (.slice A3 n3 c3) (.slice D3 m3 e3)
      go_wp2_with fail
      generalize hX : (((v5.setCell ⟨w.heap.size + 1 + 1, 0, none⟩ (.bool s3)).setCell ⟨w.heap.size + 1 + 1, 1, none⟩ (.slice A3 n3 c3)).setCell ⟨w.heap.size + 1 + 1, 2, none⟩ (.slice D3 m3 e3)) = X6 at hg hB ⊢
      clear hX r0 f_0 r1 f_1 r2 f_2
      replace h := h.kept b2 (by simp [notInt]) hg
      replace h' := h'.kept b2 (by simp [notInt]) hg
      replace h1 := h1.kept b2 (by simp [notInt]) hg
      replace h1' := h1'.kept b2 (by simp [notInt]) hg
      replace fq := fq.kept b2 (by simp [notInt]) hg
      replace b0 := b0.other hg (by omega)
      replace b1 := b1.other hg (by omega)
      replace b2 := hB
      replace H0 := below_only H0 hg (by omega) H0.size
      clear hg hB
      refine bodyPost_ret (ret_numq rfl rfl b2) rfl ?_
      exact ⟨s3, A3, n3, c3, D3, m3, e3, rfl, by rw [HE.out]; exact fq, H0⟩
set_option maxRecDepth 100000 in
set_option maxHeartbeats 800000 in
theorem nqsub_v (h : PQ w s0 (.slice A0 n0 c0) (.slice D0 m0 e0) q L) (h' : PQ w s1 (.slice A1 n1 c1) (.slice D1 m1 e1) q' L0) (hL : L ≤ 100) (hL' : L0 ≤ 100) :
    Calls Tryz.prog 37 #[.agg #[.bool s0, .slice A0 n0 c0, .slice D0 m0 e0], .agg #[.bool s1, .slice A1 n1 c1, .slice D1 m1 e1]] w fun e w' => ∃ s3 A3 n3 c3 D3 m3 e3, e = .returned (.agg #[.bool s3, .slice A3 n3 c3, .slice D3 m3 e3]) ∧ PQ w' s3 (.slice A3 n3 c3) (.slice D3 m3 e3) (q-q') (max L 1 + max L0 1 + 1) ∧ Below w.heap.size w w' := by
  go_enter Tryz.func37, Tryz.ntmps37
  go_wp2_with fail
  obtain ⟨W0, hW, b0, b1, b2, hbW, hszW0⟩ := boxes3 w #[.bool s0, .slice A0 n0 c0, .slice D0 m0 e0] #[.bool s1, .slice A1 n1 c1, .slice D1 m1 e1] #[.bool false, .slice none 0 0, .slice none 0 0] 49 49 49
  rw [hW]
  clear hW
  replace h := h.below hbW
  replace h' := h'.below hbW
  have H0 := hbW
  clear hbW
  have hD := drawn_below W0
  replace h := h.below hD
  replace h' := h'.below hD
  replace b0 := b0.below hD
  replace b1 := b1.below hD
  replace b2 := b2.below hD
  replace H0 := H0.trans (hD.mono H0.size)
  clear hD
  have K0 := (And.intro (b0.cell 0 _ rfl) (And.intro (b0.cell 1 _ rfl) (And.intro (b0.cell 2 _ rfl) (And.intro (b1.cell 0 _ rfl) (And.intro (b1.cell 1 _ rfl) (b1.cell 2 _ rfl))))))
  go_region_held3 (fun V => V.cell? ⟨w.heap.size, 0, none⟩ = some (.bool s0) ∧ V.cell? ⟨w.heap.size, 1, none⟩ = some (.slice A0 n0 c0) ∧ V.cell? ⟨w.heap.size, 2, none⟩ = some (.slice D0 m0 e0) ∧ V.cell? ⟨w.heap.size + 1, 0, none⟩ = some (.bool s1) ∧ V.cell? ⟨w.heap.size + 1, 1, none⟩ = some (.slice A1 n1 c1) ∧ V.cell? ⟨w.heap.size + 1, 2, none⟩ = some (.slice D1 m1 e1)) (first | exact KS | exact K2 | exact K1 | exact K0 | go_keep)
    (first
      | (go_at_call 39; have hK9 := K1; clear hK9; with_reducible refine (nplus_v h fo hL hL').mono ?_; rintro e v2 ⟨s3, A3, n3, c3, D3, m3, e3, rfl, fq, hb⟩; have h := h.below hb; have fo := fo.below hb; have b0 := b0.below hb; have b1 := b1.below hb; have b2 := b2.below hb; have H0 := H0.trans (hb.mono H0.size); clear h; clear fo; have K2 := (And.intro (b0.cell 0 _ rfl) (And.intro (b0.cell 1 _ rfl) (And.intro (b0.cell 2 _ rfl) (And.intro (b1.cell 0 _ rfl) (And.intro (b1.cell 1 _ rfl) (b1.cell 2 _ rfl)))))); have r0 := b2.cell 0 _ rfl; have f_0 := b2.frozen 0; have r1 := b2.cell 1 _ rfl; have f_1 := b2.frozen 1; have r2 := b2.cell 2 _ rfl; have f_2 := b2.frozen 2; have hg := only_store3 v2 (w.heap.size + 1 + 1) (.bool s3) (.slice A3 n3 c3) (.slice D3 m3 e3); have KS := (And.intro ((b0.other hg (by omega)).cell 0 _ rfl) (And.intro ((b0.other hg (by omega)).cell 1 _ rfl) (And.intro ((b0.other hg (by omega)).cell 2 _ rfl) (And.intro ((b1.other hg (by omega)).cell 0 _ rfl) (And.intro ((b1.other hg (by omega)).cell 1 _ rfl) ((b1.other hg (by omega)).cell 2 _ rfl)))))); clear hb)
      | (go_at_call 59; have hK9 := K0; clear hK9; with_reducible refine (nopp_v h').mono ?_; rintro e v1 ⟨s4, rfl, fo, hb⟩; have h := h.below hb; have h' := h'.below hb; have b0 := b0.below hb; have b1 := b1.below hb; have b2 := b2.below hb; have H0 := H0.trans (hb.mono H0.size); clear h'; have K1 := (And.intro (b0.cell 0 _ rfl) (And.intro (b0.cell 1 _ rfl) (And.intro (b0.cell 2 _ rfl) (And.intro (b1.cell 0 _ rfl) (And.intro (b1.cell 1 _ rfl) (b1.cell 2 _ rfl)))))); clear hb)
    )
  have hB := b2.stored3 (.bool s3) (.slice A3 n3 c3) (.slice D3 m3 e3)
  go_wp2_with fail
  generalize hX : (((v2.setCell ⟨w.heap.size + 1 + 1, 0, none⟩ (.bool s3)).setCell ⟨w.heap.size + 1 + 1, 1, none⟩ (.slice A3 n3 c3)).setCell ⟨w.heap.size + 1 + 1, 2, none⟩ (.slice D3 m3 e3)) = X3 at hg hB ⊢
  clear hX r0 f_0 r1 f_1 r2 f_2
  replace fq := fq.kept b2 (by simp [notInt]) hg
  replace b0 := b0.other hg (by omega)
  replace b1 := b1.other hg (by omega)
  replace b2 := hB
  replace H0 := below_only H0 hg (by omega) H0.size
  clear hg hB
  refine bodyPost_ret (ret_numq rfl rfl b2) rfl ?_
  exact ⟨s3, A3, n3, c3, D3, m3, e3, rfl, by rw [Rat.sub_eq_add_neg]; exact fq, H0⟩
set_option maxRecDepth 100000 in
set_option maxHeartbeats 800000 in
theorem nqc_v (h : PQ w s0 (.slice A0 n0 c0) (.slice D0 m0 e0) q L) (h' : PQ w s1 (.slice A1 n1 c1) (.slice D1 m1 e1) q' L0) (hL : L ≤ 100) (hL' : L0 ≤ 100) (hk : rsg (q - q') = k) :
    Calls Tryz.prog 31 #[.agg #[.bool s0, .slice A0 n0 c0, .slice D0 m0 e0], .agg #[.bool s1, .slice A1 n1 c1, .slice D1 m1 e1]] w fun e w' => e = .returned (.int .i64 k) ∧ Below w.heap.size w w' := by
  have HK := Lib.hid hk
  clear hk
  go_enter Tryz.func31, Tryz.ntmps31
  go_wp2_with fail
  obtain ⟨W0, hW, b0, b1, hbW, hszW0⟩ := boxes2 w #[.bool s0, .slice A0 n0 c0, .slice D0 m0 e0] #[.bool s1, .slice A1 n1 c1, .slice D1 m1 e1] 49 49
  rw [hW]
  clear hW
  replace h := h.below hbW
  replace h' := h'.below hbW
  have H0 := hbW
  clear hbW
  have cb00 := b0.cell 0 _ rfl
  have cb01 := b0.cell 1 _ rfl
  have cb02 := b0.cell 2 _ rfl
  have cb10 := b1.cell 0 _ rfl
  have cb11 := b1.cell 1 _ rfl
  have cb12 := b1.cell 2 _ rfl
  go_wp2_with fail
  clear cb00 cb01 cb02 cb10 cb11 cb12
  refine (nqsub_v h h' hL hL').mono ?_
  rintro e w1 ⟨s3, A3, n3, c3, D3, m3, e3, rfl, fq, hb⟩
  replace h := h.below hb
  replace h' := h'.below hb
  replace b0 := b0.below hb
  replace b1 := b1.below hb
  replace H0 := H0.trans (hb.mono H0.size)
  clear hb
  go_wp2_with fail
  refine (nqs_v fq HK.out).mono ?_
  rintro e w2 ⟨rfl, hb⟩
  replace h := h.below hb
  replace h' := h'.below hb
  replace fq := fq.below hb
  replace b0 := b0.below hb
  replace b1 := b1.below hb
  replace H0 := H0.trans (hb.mono H0.size)
  clear hb
  go_wp2_with fail
  go_returns
  exact ⟨rfl, H0⟩
end
end Go.Proofs.YthmmnmajkeoaaabGreatDoor
