/-
  RatA, RatC, RatD in one text.
-/
import Derived.Test.YthmmnmajkeoaaabGreatDoorOOrd
import Derived.Test.YthmmnmajkeoaaabGreatDoorOR1
namespace Go.Proofs.YthmmnmajkeoaaabGreatDoor
open Go.RowKit

section
variable {A0 A1 A2 A3 D0 D1 D2 D3 : Option Addr} {n0 n1 n2 n3 c0 c1 c2 c3 m0 m1 m2 m3 e0 e1 e2 e3 : Nat} {s0 s1 s2 s3 : Bool} {z z0 z1 z2 : Int} {q q0 q1 q2 : Rat} {L L0 L1 L2 x x0 x1 y : Nat} {k : Int} {w : World}
theorem riszero_v {b : Bool} (h : RV w (.slice A0 n0 c0) x L) (hb : decide (x = 0) = b) :
    Calls Tryz.prog 96 #[.slice A0 n0 c0] w fun e w' => e = .returned (.bool b) ∧ Below w.heap.size w w' := by
  have hk : ((bitsN x : Int) == 0) = b := by
    rw [← hb]
    rcases Nat.eq_zero_or_pos x with h0 | h0
    · subst h0; rfl
    · have h1 := bitsN_pos h0
      rw [decide_eq_false (by omega), beq_eq_false_iff_ne]; omega
  have HK := Lib.hid hk
  clear hk hb
  go_enter Tryz.func96, Tryz.ntmps96
  go_wp2_with fail
  refine (bits_v h).mono ?_
  rintro e w1 ⟨rfl, hb⟩
  go_wp2_with fail
  go_returns
  exact ⟨by rw [HK.out]; rfl, hb⟩
theorem risone_v {b : Bool} (h : RV w (.slice A0 n0 c0) x L) (hb : decide (x = 1) = b) :
    Calls Tryz.prog 97 #[.slice A0 n0 c0] w fun e w' => e = .returned (.bool b) ∧ Below w.heap.size w w' := by
  rcases Nat.lt_or_ge x 18446744073709551616 with hx | hx
  · have hk : ((x : Int) == 1) = b := by
      rw [← hb]
      by_cases h1 : x = 1
      · subst h1; rfl
      · rw [decide_eq_false h1, beq_eq_false_iff_ne]; omega
    have HK := Lib.hid hk
    clear hk hb
    go_enter Tryz.func97, Tryz.ntmps97
    go_wp2_with fail
    refine (uint_small h hx).mono ?_
    rintro e w1 ⟨rfl, hb⟩
    go_wp2_with fail
    go_returns
    exact ⟨by rw [HK.out]; rfl, hb⟩
  · have hb0 : b = false := by rw [← hb]; exact decide_eq_false (by omega)
    subst hb0
    go_enter Tryz.func97, Tryz.ntmps97
    go_wp2_with fail
    refine (uint_big h hx).mono ?_
    rintro e w1 ⟨rfl, hb⟩
    go_wp2_with fail
    go_returns
    exact ⟨rfl, hb⟩
/-- As RQ, with a denominator that is not 0. -/
def RF (w : World) (s : Bool) (v u : Value) (q : Rat) (L : Nat) : Prop := ∃ z d, RI w s v z L ∧ RV w u d L ∧ d ≠ 0 ∧ q = mkRat z d
theorem RF.rq {v u : Value} (h : RF w s0 v u q L) : RQ w s0 v u q L := by obtain ⟨z, d, h1, h2, _, h3⟩ := h; exact ⟨z, d, h1, h2, h3⟩
theorem RF.below {w' : World} {v u : Value} (h : RF w s0 v u q L) (hb : Below w.heap.size w w') : RF w' s0 v u q L := by
  obtain ⟨z, d, h1, h2, h3, h4⟩ := h; exact ⟨z, d, h1.below hb, h2.below hb, h3, h4⟩
theorem RF.kept {w' : World} {v u : Value} {g : Nat} {cs : Array Value} {t : TypeId} (h : RF w s0 v u q L) (hb : Box w g cs t) (hc : cs.all notInt = true) (hg : w.grownBy w' (some g)) : RF w' s0 v u q L := by
  obtain ⟨z, d, h1, h2, h3, h4⟩ := h; exact ⟨z, d, h1.kept hb hc hg, h2.kept hb hc hg, h3, h4⟩
theorem NQ.rf {v u : Value} (h : NQ w s0 v u q L) : RF w s0 v u q L := ⟨q.num, q.den, h.1.ri, h.2.rv, q.den_nz, (Rat.mkRat_self q).symm⟩
set_option maxRecDepth 100000 in
theorem rfromint_v (z : Int) (h0 : -9223372036854775808 ≤ z) (h1 : z ≤ 9223372036854775807) (w : World) :
    Calls Tryz.prog 52 #[.int .i64 z] w fun e w' => ∃ s1 A1 n1 c1 D1 m1 e1, e = .returned (.agg #[.bool s1, .slice A1 n1 c1, .slice D1 m1 e1]) ∧ NQ w' s1 (.slice A1 n1 c1) (.slice D1 m1 e1) (z : Rat) 2 ∧ Below w.heap.size w w' := by
  have H1 := Lib.hid (fun W => ifromint_v z h0 h1 W)
  clear h0 h1
  go_enter Tryz.func52, Tryz.ntmps52
  go_wp2_with fail
  obtain ⟨W0, hW, b0, hbW, hszW0⟩ := boxes1 w #[.bool false, .slice none 0 0, .slice none 0 0] 63
  rw [hW]
  clear hW
  have H0 := hbW
  clear hbW
  refine (H1.out _).mono ?_
  rintro e w1 ⟨s1, A1, n1, c1, rfl, fi, hb⟩
  replace b0 := b0.below hb
  replace H0 := H0.trans (hb.mono H0.size)
  clear hb
  go_wp2_with fail
  refine (fromuint_v 1 (by omega) _).mono ?_
  rintro e w2 ⟨A2, n2, c2, rfl, fd, hb⟩
  replace fi := fi.below hb
  replace b0 := b0.below hb
  replace H0 := H0.trans (hb.mono H0.size)
  clear hb
  have cb00 := b0.cell 0 _ rfl
  have yb00 := b0.frozen 0
  have cb01 := b0.cell 1 _ rfl
  have yb01 := b0.frozen 1
  have cb02 := b0.cell 2 _ rfl
  have yb02 := b0.frozen 2
  go_wp2_with fail
  clear cb00 yb00 cb01 yb01 cb02 yb02
  have hg := only_store3 w2 (w.heap.size) (.bool s1) (.slice A1 n1 c1) (.slice A2 n2 c2)
  have hB := b0.stored3 (.bool s1) (.slice A1 n1 c1) (.slice A2 n2 c2)
  generalize hX : (((w2.setCell ⟨w.heap.size, 0, none⟩ (.bool s1)).setCell ⟨w.heap.size, 1, none⟩ (.slice A1 n1 c1)).setCell ⟨w.heap.size, 2, none⟩ (.slice A2 n2 c2)) = X3 at hg hB ⊢
  clear hX
  replace fi := fi.kept b0 (by simp [notInt]) hg
  replace fd := fd.kept b0 (by simp [notInt]) hg
  replace b0 := hB
  replace H0 := below_only H0 hg (by omega) H0.size
  clear hg hB
  refine bodyPost_ret (ret_rat rfl rfl b0) rfl ?_
  exact ⟨s1, A1, n1, c1, A2, n2, c2, rfl, ⟨fi, fd⟩, H0⟩
set_option maxRecDepth 100000 in
theorem rscale_v (h : RI w s0 (.slice A0 n0 c0) z L) (h' : RV w (.slice A1 n1 c1) x L0) (hL : L ≤ 1000000) (hL' : L0 ≤ 1000000) :
    Calls Tryz.prog 76 #[.agg #[.bool s0, .slice A0 n0 c0], .slice A1 n1 c1] w fun e w' => ∃ s2 A2 n2 c2, e = .returned (.agg #[.bool s2, .slice A2 n2 c2]) ∧ NI w' s2 (.slice A2 n2 c2) (z * (x : Int)) (L + L0) ∧ Below w.heap.size w w' := by
  go_enter Tryz.func76, Tryz.ntmps76
  go_wp2_with fail
  obtain ⟨W0, hW, b0, b1, hbW, hszW0⟩ := boxes2 w #[.bool s0, .slice A0 n0 c0] #[.bool false, .slice none 0 0] 61 61
  rw [hW]
  clear hW
  replace h := h.below hbW
  replace h' := h'.below hbW
  have H0 := hbW
  clear hbW
  have cb00 := b0.cell 0 _ rfl
  have cb01 := b0.cell 1 _ rfl
  go_wp2_with fail
  clear cb00 cb01
  refine (imul_v h ⟨x, h', (sg_false x).symm⟩ hL hL').mono ?_
  rintro e w1 ⟨s2, A2, n2, c2, rfl, fi, hb⟩
  replace h := h.below hb
  replace h' := h'.below hb
  replace b0 := b0.below hb
  replace b1 := b1.below hb
  replace H0 := H0.trans (hb.mono H0.size)
  clear hb
  have cb10 := b1.cell 0 _ rfl
  have yb10 := b1.frozen 0
  have cb11 := b1.cell 1 _ rfl
  have yb11 := b1.frozen 1
  go_wp2_with fail
  clear cb10 yb10 cb11 yb11
  have hg := only_store w1 (w.heap.size + 1) (.bool s2) (.slice A2 n2 c2)
  have hB := b1.stored (.bool s2) (.slice A2 n2 c2)
  generalize hX : ((w1.setCell ⟨w.heap.size + 1, 0, none⟩ (.bool s2)).setCell ⟨w.heap.size + 1, 1, none⟩ (.slice A2 n2 c2)) = X2 at hg hB ⊢
  clear hX
  replace h := h.kept b1 (by simp [notInt]) hg
  replace h' := h'.kept b1 (by simp [notInt]) hg
  replace fi := fi.kept b1 (by simp [notInt]) hg
  replace b0 := b0.other hg (by omega)
  replace b1 := hB
  replace H0 := below_only H0 hg (by omega) H0.size
  clear hg hB
  refine bodyPost_ret (ret_int rfl rfl b1) rfl ?_
  exact ⟨s2, A2, n2, c2, rfl, fi, H0⟩
set_option maxRecDepth 100000 in
theorem rfraction_v (h : RQ w s0 (.slice A0 n0 c0) (.slice D0 m0 e0) q L) :
    Calls Tryz.prog 74 #[.agg #[.bool s0, .slice A0 n0 c0, .slice D0 m0 e0]] w fun e w' => ∃ s1 A1 n1 c1 D1 m1 e1, e = .returned (.agg #[.bool s1, .slice A1 n1 c1, .slice D1 m1 e1]) ∧ RF w' s1 (.slice A1 n1 c1) (.slice D1 m1 e1) q (max L 2) ∧ Below w.heap.size w w' := by
  obtain ⟨z, d, h1, h2, rfl⟩ := h
  rcases Decidable.em (d = 0) with h0 | h0
  · subst h0
    rw [Rat.mkRat_zero]
    go_enter Tryz.func74, Tryz.ntmps74
    go_wp2_with fail
    obtain ⟨W0, hW, b0, b1, hbW, hszW0⟩ := boxes2 w #[.bool s0, .slice A0 n0 c0, .slice D0 m0 e0] #[.bool false, .slice none 0 0, .slice none 0 0] 63 63
    rw [hW]
    clear hW
    replace h1 := h1.below hbW
    replace h2 := h2.below hbW
    have H0 := hbW
    clear hbW
    have cb00 := b0.cell 0 _ rfl
    have cb01 := b0.cell 1 _ rfl
    have cb02 := b0.cell 2 _ rfl
    go_wp2_with fail
    clear cb00 cb01 cb02
    refine (riszero_v h2 (b := true) (by simp)).mono ?_
    rintro e w1 ⟨rfl, hb⟩
    replace h1 := h1.below hb
    replace h2 := h2.below hb
    replace b0 := b0.below hb
    replace b1 := b1.below hb
    replace H0 := H0.trans (hb.mono H0.size)
    clear hb
    go_wp2_with fail
    refine (rfromint_v 0 (by omega) (by omega) _).mono ?_
    rintro e w2 ⟨s1, A1, n1, c1, D1, m1, e1, rfl, fq, hb⟩
    replace b0 := b0.below hb
    replace b1 := b1.below hb
    replace H0 := H0.trans (hb.mono H0.size)
    clear hb
    have cb10 := b1.cell 0 _ rfl
    have yb10 := b1.frozen 0
    have cb11 := b1.cell 1 _ rfl
    have yb11 := b1.frozen 1
    have cb12 := b1.cell 2 _ rfl
    have yb12 := b1.frozen 2
    go_wp2_with fail
    clear cb10 yb10 cb11 yb11 cb12 yb12
    have hg := only_store3 w2 (w.heap.size + 1) (.bool s1) (.slice A1 n1 c1) (.slice D1 m1 e1)
    have hB := b1.stored3 (.bool s1) (.slice A1 n1 c1) (.slice D1 m1 e1)
    generalize hX : (((w2.setCell ⟨w.heap.size + 1, 0, none⟩ (.bool s1)).setCell ⟨w.heap.size + 1, 1, none⟩ (.slice A1 n1 c1)).setCell ⟨w.heap.size + 1, 2, none⟩ (.slice D1 m1 e1)) = X3 at hg hB ⊢
    clear hX
    replace fq := fq.kept b1 (by simp [notInt]) hg
    replace b0 := b0.other hg (by omega)
    replace b1 := hB
    replace H0 := below_only H0 hg (by omega) H0.size
    clear hg hB
    refine bodyPost_ret (ret_rat rfl rfl b1) rfl ?_
    exact ⟨s1, A1, n1, c1, D1, m1, e1, rfl, (fq.more (by omega)).rf, H0⟩
  · have HD := Lib.hid (decide_eq_false h0)
    clear h0
    go_enter Tryz.func74, Tryz.ntmps74
    go_wp2_with fail
    obtain ⟨W0, hW, b0, b1, hbW, hszW0⟩ := boxes2 w #[.bool s0, .slice A0 n0 c0, .slice D0 m0 e0] #[.bool false, .slice none 0 0, .slice none 0 0] 63 63
    rw [hW]
    clear hW
    replace h1 := h1.below hbW
    replace h2 := h2.below hbW
    have H0 := hbW
    clear hbW
    have cb00 := b0.cell 0 _ rfl
    have cb01 := b0.cell 1 _ rfl
    have cb02 := b0.cell 2 _ rfl
    go_wp2_with fail
    clear cb00 cb01 cb02
    refine (riszero_v h2 (b := false) HD.out).mono ?_
    rintro e w1 ⟨rfl, hb⟩
    replace h1 := h1.below hb
    replace h2 := h2.below hb
    replace b0 := b0.below hb
    replace b1 := b1.below hb
    replace H0 := H0.trans (hb.mono H0.size)
    clear hb
    have cb00 := b0.cell 0 _ rfl
    have cb01 := b0.cell 1 _ rfl
    have cb02 := b0.cell 2 _ rfl
    have cb10 := b1.cell 0 _ rfl
    have yb10 := b1.frozen 0
    have cb11 := b1.cell 1 _ rfl
    have yb11 := b1.frozen 1
    have cb12 := b1.cell 2 _ rfl
    have yb12 := b1.frozen 2
    clear cb00 cb01 cb02 cb10 yb10 cb11 yb11 cb12 yb12
    have cb00 := b0.cell 0 _ rfl
    have cb01 := b0.cell 1 _ rfl
    have cb02 := b0.cell 2 _ rfl
    have cb10 := b1.cell 0 _ rfl
    have yb10 := b1.frozen 0
    have cb11 := b1.cell 1 _ rfl
    have yb11 := b1.frozen 1
    have cb12 := b1.cell 2 _ rfl
    have yb12 := b1.frozen 2
    go_wp2_with fail
    clear cb00 cb01 cb02 cb10 yb10 cb11 yb11 cb12 yb12
    have hg := only_store3 w1 (w.heap.size + 1) (.bool s0) (.slice A0 n0 c0) (.slice D0 m0 e0)
    have hB := b1.stored3 (.bool s0) (.slice A0 n0 c0) (.slice D0 m0 e0)
    generalize hX : (((w1.setCell ⟨w.heap.size + 1, 0, none⟩ (.bool s0)).setCell ⟨w.heap.size + 1, 1, none⟩ (.slice A0 n0 c0)).setCell ⟨w.heap.size + 1, 2, none⟩ (.slice D0 m0 e0)) = X2 at hg hB ⊢
    clear hX
    replace h1 := h1.kept b1 (by simp [notInt]) hg
    replace h2 := h2.kept b1 (by simp [notInt]) hg
    replace b0 := b0.other hg (by omega)
    replace b1 := hB
    replace H0 := below_only H0 hg (by omega) H0.size
    clear hg hB
    refine bodyPost_ret (ret_rat rfl rfl b1) rfl ?_
    exact ⟨s0, A0, n0, c0, D0, m0, e0, rfl, ⟨z, d, h1.more (by omega), h2.more (by omega), of_decide_eq_false HD.out, rfl⟩, H0⟩
theorem mk_one (z : Int) : (mkRat z 1).num = z := by rw [mk_num (by omega), Nat.gcd_one_right]; simp
theorem mk_one_den (z : Int) : (mkRat z 1).den = 1 := by rw [mk_den (by omega), Nat.gcd_one_right]
set_option maxRecDepth 100000 in
theorem rlowest_v (h : RI w s0 (.slice A0 n0 c0) z L) (h' : RV w (.slice A1 n1 c1) x L) (hd : x ≠ 0) (hL : L ≤ 1000000) :
    Calls Tryz.prog 78 #[.agg #[.bool s0, .slice A0 n0 c0], .slice A1 n1 c1] w fun e w' => ∃ s1 A1 n1 c1 D1 m1 e1, e = .returned (.agg #[.bool s1, .slice A1 n1 c1, .slice D1 m1 e1]) ∧ NQ w' s1 (.slice A1 n1 c1) (.slice D1 m1 e1) (mkRat z x) L ∧ Below w.heap.size w w' := by
  rcases Decidable.em (x = 1) with h1 | h1
  · subst h1
    clear hd
    go_enter Tryz.func78, Tryz.ntmps78
    go_wp2_with fail
    obtain ⟨W0, hW, b0, b1, hbW, hszW0⟩ := boxes2 w #[.bool s0, .slice A0 n0 c0] #[.bool false, .slice none 0 0, .slice none 0 0] 61 63
    rw [hW]
    clear hW
    replace h := h.below hbW
    replace h' := h'.below hbW
    have H0 := hbW
    clear hbW
    refine (risone_v h' (b := true) (by simp)).mono ?_
    rintro e w1 ⟨rfl, hb⟩
    replace h := h.below hb
    replace h' := h'.below hb
    replace b0 := b0.below hb
    replace b1 := b1.below hb
    replace H0 := H0.trans (hb.mono H0.size)
    clear hb
    have cb00 := b0.cell 0 _ rfl
    have cb01 := b0.cell 1 _ rfl
    go_wp2_with fail
    clear cb00 cb01
    refine (inorm_v h hL).mono ?_
    rintro e w2 ⟨s1, A1, n1, c1, rfl, fi, hb⟩
    replace h := h.below hb
    replace h' := h'.below hb
    replace b0 := b0.below hb
    replace b1 := b1.below hb
    replace H0 := H0.trans (hb.mono H0.size)
    clear hb
    go_wp2_with fail
    refine (norm_v h' hL).mono ?_
    rintro e w3 ⟨D1, m1, e1, rfl, fd, hb⟩
    replace h := h.below hb
    replace h' := h'.below hb
    replace fi := fi.below hb
    replace b0 := b0.below hb
    replace b1 := b1.below hb
    replace H0 := H0.trans (hb.mono H0.size)
    clear hb
    have cb10 := b1.cell 0 _ rfl
    have yb10 := b1.frozen 0
    have cb11 := b1.cell 1 _ rfl
    have yb11 := b1.frozen 1
    have cb12 := b1.cell 2 _ rfl
    have yb12 := b1.frozen 2
    go_wp2_with fail
    clear cb10 yb10 cb11 yb11 cb12 yb12
    have hg := only_store3 w3 (w.heap.size + 1) (.bool s1) (.slice A1 n1 c1) (.slice D1 m1 e1)
    have hB := b1.stored3 (.bool s1) (.slice A1 n1 c1) (.slice D1 m1 e1)
    generalize hX : (((w3.setCell ⟨w.heap.size + 1, 0, none⟩ (.bool s1)).setCell ⟨w.heap.size + 1, 1, none⟩ (.slice A1 n1 c1)).setCell ⟨w.heap.size + 1, 2, none⟩ (.slice D1 m1 e1)) = X4 at hg hB ⊢
    clear hX
    replace h := h.kept b1 (by simp [notInt]) hg
    replace h' := h'.kept b1 (by simp [notInt]) hg
    replace fi := fi.kept b1 (by simp [notInt]) hg
    replace fd := fd.kept b1 (by simp [notInt]) hg
    replace b0 := b0.other hg (by omega)
    replace b1 := hB
    replace H0 := below_only H0 hg (by omega) H0.size
    clear hg hB
    refine bodyPost_ret (ret_rat rfl rfl b1) rfl ?_
    exact ⟨s1, A1, n1, c1, D1, m1, e1, rfl, ⟨by rw [mk_one]; exact fi, by rw [mk_one_den]; exact fd⟩, H0⟩
  · have HN := Lib.hid (decide_eq_false h1)
    have HG := Lib.hid (Nat.gcd_pos_of_pos_right z.natAbs (Nat.pos_of_ne_zero hd))
    have HS := Lib.hid (mk_sg hd h.sg).symm
    have HD := Lib.hid hd
    clear h1 hd
    go_enter Tryz.func78, Tryz.ntmps78
    go_wp2_with fail
    obtain ⟨W0, hW, b0, b1, hbW, hszW0⟩ := boxes2 w #[.bool s0, .slice A0 n0 c0] #[.bool false, .slice none 0 0, .slice none 0 0] 61 63
    rw [hW]
    clear hW
    replace h := h.below hbW
    replace h' := h'.below hbW
    have H0 := hbW
    clear hbW
    refine (risone_v h' (b := false) HN.out).mono ?_
    rintro e w1 ⟨rfl, hb⟩
    replace h := h.below hb
    replace h' := h'.below hb
    replace b0 := b0.below hb
    replace b1 := b1.below hb
    replace H0 := H0.trans (hb.mono H0.size)
    clear hb
    have cb00 := b0.cell 0 _ rfl
    have cb01 := b0.cell 1 _ rfl
    go_wp2_with fail
    clear cb00 cb01
    refine (gcd_v h.rv h' hL hL).mono ?_
    rintro e w2 ⟨A1, n1, c1, rfl, fg, hb⟩
    replace h := h.below hb
    replace h' := h'.below hb
    replace b0 := b0.below hb
    replace b1 := b1.below hb
    replace H0 := H0.trans (hb.mono H0.size)
    clear hb
    have cb00 := b0.cell 0 _ rfl
    have cb01 := b0.cell 1 _ rfl
    go_wp2_with fail
    clear cb00 cb01
    refine (divmod_v h.rv fg.rv HG.out hL).mono ?_
    rintro e w3 ⟨A2, n2, c2, A3, n3, c3, rfl, fa, _, hb⟩
    replace h := h.below hb
    replace h' := h'.below hb
    replace fg := fg.below hb
    replace b0 := b0.below hb
    replace b1 := b1.below hb
    replace H0 := H0.trans (hb.mono H0.size)
    clear hb
    go_wp2_with fail
    refine (divmod_v h' fg.rv HG.out hL).mono ?_
    rintro e w4 ⟨D2, m2, e2, D3, m3, e3, rfl, fd, _, hb⟩
    replace h := h.below hb
    replace h' := h'.below hb
    replace fg := fg.below hb
    replace fa := fa.below hb
    replace b0 := b0.below hb
    replace b1 := b1.below hb
    replace H0 := H0.trans (hb.mono H0.size)
    clear hb
    have cb00 := b0.cell 0 _ rfl
    have cb01 := b0.cell 1 _ rfl
    go_wp2_with fail
    clear cb00 cb01
    refine (inorm_v (s := s0) ⟨_, fa.rv, HS.out⟩ hL).mono ?_
    rintro e w5 ⟨s1, A1', n1', c1', rfl, fi, hb⟩
    replace h := h.below hb
    replace h' := h'.below hb
    replace fg := fg.below hb
    replace fa := fa.below hb
    replace fd := fd.below hb
    replace b0 := b0.below hb
    replace b1 := b1.below hb
    replace H0 := H0.trans (hb.mono H0.size)
    clear hb
    have cb10 := b1.cell 0 _ rfl
    have yb10 := b1.frozen 0
    have cb11 := b1.cell 1 _ rfl
    have yb11 := b1.frozen 1
    have cb12 := b1.cell 2 _ rfl
    have yb12 := b1.frozen 2
    go_wp2_with fail
    clear cb10 yb10 cb11 yb11 cb12 yb12
    have hg := only_store3 w5 (w.heap.size + 1) (.bool s1) (.slice A1' n1' c1') (.slice D2 m2 e2)
    have hB := b1.stored3 (.bool s1) (.slice A1' n1' c1') (.slice D2 m2 e2)
    generalize hX : (((w5.setCell ⟨w.heap.size + 1, 0, none⟩ (.bool s1)).setCell ⟨w.heap.size + 1, 1, none⟩ (.slice A1' n1' c1')).setCell ⟨w.heap.size + 1, 2, none⟩ (.slice D2 m2 e2)) = X6 at hg hB ⊢
    clear hX
    replace h := h.kept b1 (by simp [notInt]) hg
    replace h' := h'.kept b1 (by simp [notInt]) hg
    replace fg := fg.kept b1 (by simp [notInt]) hg
    replace fa := fa.kept b1 (by simp [notInt]) hg
    replace fd := fd.kept b1 (by simp [notInt]) hg
    replace fi := fi.kept b1 (by simp [notInt]) hg
    replace b0 := b0.other hg (by omega)
    replace b1 := hB
    replace H0 := below_only H0 hg (by omega) H0.size
    clear hg hB
    refine bodyPost_ret (ret_rat rfl rfl b1) rfl ?_
    exact ⟨s1, A1', n1', c1', D2, m2, e2, rfl, ⟨fi, by rw [mk_den HD.out]; exact fd⟩, H0⟩
end
end Go.Proofs.YthmmnmajkeoaaabGreatDoor
namespace Go.Proofs.YthmmnmajkeoaaabGreatDoor
open Go.RowKit

section
variable {A0 A1 A2 A3 D0 D1 D2 D3 : Option Addr} {n0 n1 n2 n3 c0 c1 c2 c3 m0 m1 m2 m3 e0 e1 e2 e3 : Nat} {s0 s1 s2 s3 : Bool} {z z0 z1 z2 : Int} {q q' q0 q1 q2 : Rat} {L L0 L1 L2 x x0 x1 y : Nat} {k : Int} {w : World}
set_option maxRecDepth 100000 in
theorem rnorm_v (h : RQ w s0 (.slice A0 n0 c0) (.slice D0 m0 e0) q L) (hL : L ≤ 1000000) :
    Calls Tryz.prog 73 #[.agg #[.bool s0, .slice A0 n0 c0, .slice D0 m0 e0]] w fun e w' => ∃ s1 A1 n1 c1 D1 m1 e1, e = .returned (.agg #[.bool s1, .slice A1 n1 c1, .slice D1 m1 e1]) ∧ NQ w' s1 (.slice A1 n1 c1) (.slice D1 m1 e1) q (max L 2) ∧ Below w.heap.size w w' := by
  go_enter Tryz.func73, Tryz.ntmps73
  go_wp2_with fail
  obtain ⟨W0, hW, b0, b1, hbW, hszW0⟩ := boxes2 w #[.bool s0, .slice A0 n0 c0, .slice D0 m0 e0] #[.bool false, .slice none 0 0, .slice none 0 0] 63 63
  rw [hW]
  clear hW
  replace h := h.below hbW
  have H0 := hbW
  clear hbW
  have cb00 := b0.cell 0 _ rfl
  have cb01 := b0.cell 1 _ rfl
  have cb02 := b0.cell 2 _ rfl
  go_wp2_with fail
  clear cb00 cb01 cb02
  refine (rfraction_v h).mono ?_
  rintro e w1 ⟨s1, A1, n1, c1, D1, m1, e1, rfl, fr, hb⟩
  replace h := h.below hb
  replace b0 := b0.below hb
  replace b1 := b1.below hb
  replace H0 := H0.trans (hb.mono H0.size)
  clear hb
  clear h
  have cb00 := b0.cell 0 _ rfl
  have yb00 := b0.frozen 0
  have cb01 := b0.cell 1 _ rfl
  have yb01 := b0.frozen 1
  have cb02 := b0.cell 2 _ rfl
  have yb02 := b0.frozen 2
  go_wp2_with fail
  clear cb00 yb00 cb01 yb01 cb02 yb02
  have hg := only_store3 w1 (w.heap.size) (.bool s1) (.slice A1 n1 c1) (.slice D1 m1 e1)
  have hB := b0.stored3 (.bool s1) (.slice A1 n1 c1) (.slice D1 m1 e1)
  generalize hX : (((w1.setCell ⟨w.heap.size, 0, none⟩ (.bool s1)).setCell ⟨w.heap.size, 1, none⟩ (.slice A1 n1 c1)).setCell ⟨w.heap.size, 2, none⟩ (.slice D1 m1 e1)) = X2 at hg hB ⊢
  clear hX
  replace fr := fr.kept b0 (by simp [notInt]) hg
  replace b1 := b1.other hg (by omega)
  replace b0 := hB
  replace H0 := below_only H0 hg (by omega) H0.size
  clear hg hB
  obtain ⟨z, d, hz, hd, hd0, rfl⟩ := fr
  have cb00 := b0.cell 0 _ rfl
  have cb01 := b0.cell 1 _ rfl
  have cb02 := b0.cell 2 _ rfl
  go_wp2_with fail
  clear cb00 cb01 cb02
  refine (rlowest_v hz hd hd0 (by omega)).mono ?_
  rintro e w3 ⟨s2, A2, n2, c2, D2, m2, e2, rfl, fq, hb⟩
  replace hz := hz.below hb
  replace hd := hd.below hb
  replace b0 := b0.below hb
  replace b1 := b1.below hb
  replace H0 := H0.trans (hb.mono H0.size)
  clear hb
  have cb10 := b1.cell 0 _ rfl
  have yb10 := b1.frozen 0
  have cb11 := b1.cell 1 _ rfl
  have yb11 := b1.frozen 1
  have cb12 := b1.cell 2 _ rfl
  have yb12 := b1.frozen 2
  go_wp2_with fail
  clear cb10 yb10 cb11 yb11 cb12 yb12
  have hg := only_store3 w3 (w.heap.size + 1) (.bool s2) (.slice A2 n2 c2) (.slice D2 m2 e2)
  have hB := b1.stored3 (.bool s2) (.slice A2 n2 c2) (.slice D2 m2 e2)
  generalize hX : (((w3.setCell ⟨w.heap.size + 1, 0, none⟩ (.bool s2)).setCell ⟨w.heap.size + 1, 1, none⟩ (.slice A2 n2 c2)).setCell ⟨w.heap.size + 1, 2, none⟩ (.slice D2 m2 e2)) = X4 at hg hB ⊢
  clear hX
  replace hz := hz.kept b1 (by simp [notInt]) hg
  replace hd := hd.kept b1 (by simp [notInt]) hg
  replace fq := fq.kept b1 (by simp [notInt]) hg
  replace b0 := b0.other hg (by omega)
  replace b1 := hB
  replace H0 := below_only H0 hg (by omega) H0.size
  clear hg hB
  refine bodyPost_ret (ret_rat rfl rfl b1) rfl ?_
  exact ⟨s2, A2, n2, c2, D2, m2, e2, rfl, fq, H0⟩
set_option maxRecDepth 100000 in
theorem rcmp_v (h : RQ w s0 (.slice A0 n0 c0) (.slice D0 m0 e0) q L) (h' : RQ w s1 (.slice A1 n1 c1) (.slice D1 m1 e1) q' L0) (hL : L ≤ 100000) (hL' : L0 ≤ 100000) (hk : rsg (q - q') = k) :
    Calls Tryz.prog 49 #[.agg #[.bool s0, .slice A0 n0 c0, .slice D0 m0 e0], .agg #[.bool s1, .slice A1 n1 c1, .slice D1 m1 e1]] w fun e w' => e = .returned (.int .i64 k) ∧ Below w.heap.size w w' := by
  go_enter Tryz.func49, Tryz.ntmps49
  go_wp2_with fail
  obtain ⟨W0, hW, b0, b1, hbW, hszW0⟩ := boxes2 w #[.bool s0, .slice A0 n0 c0, .slice D0 m0 e0] #[.bool s1, .slice A1 n1 c1, .slice D1 m1 e1] 63 63
  rw [hW]
  clear hW
  replace h := h.below hbW
  replace h' := h'.below hbW
  have H0 := hbW
  clear hbW
  have hD := drawn_below W0
  replace h := h.below hD
  replace h' := h'.below hD
  replace b0 := b0.below hD
  replace b1 := b1.below hD
  replace H0 := H0.trans (hD.mono H0.size)
  clear hD
  refine wp_region_noPanic ?_
  refine wp_region_F (S := (fun V => V.cell? ⟨w.heap.size + 1, 0, none⟩ = some (.bool s1) ∧ V.cell? ⟨w.heap.size + 1, 1, none⟩ = some (.slice A1 n1 c1) ∧ V.cell? ⟨w.heap.size + 1, 2, none⟩ = some (.slice D1 m1 e1))) (F := (fun j => j == 3 || j == 4 || j == 5)) (by kernel_rfl) ?_
  generalize W0.drew = v1 at h h' b0 b1 H0 ⊢
  refine wpAnyF_take (i := 2) (v := ?_) (fun j => j == 3 || j == 4 || j == 5) rfl (by kernel_rfl) (by kernel_rfl) (by kernel_rfl) (by kernel_rfl) (fun j hj => by have h6 : 6 ≤ j := hj; simp; omega) (fun _ _ _ h => h) (Or.inl ⟨by rfl, ?_⟩) ⟨b1.cell 0 _ rfl, b1.cell 1 _ rfl, b1.cell 2 _ rfl⟩ ?_
  rotate_left
  · (intro w hSw; (try dsimp only at hSw); go_simp; (try with_reducible rfl))
  (try simp only [List.getElem_toArray, List.getElem_cons_succ, List.getElem_cons_zero, Act.put, List.setIfInBounds_toArray, List.set_cons_zero, List.set_cons_succ])
  have cb00 := b0.cell 0 _ rfl
  have cb01 := b0.cell 1 _ rfl
  have cb02 := b0.cell 2 _ rfl
  refine wpAnyF_one (i := 0) (by kernel_rfl) rfl rfl (fun K hK => ?_)
  go_simp
  refine hK.out _ _ ⟨b1.cell 0 _ rfl, b1.cell 1 _ rfl, b1.cell 2 _ rfl⟩ ?_
  clear hK K
  (try simp only [List.getElem_toArray, List.getElem_cons_succ, List.getElem_cons_zero, Act.put, List.setIfInBounds_toArray, List.set_cons_zero, List.set_cons_succ])
  clear cb00 cb01 cb02
  refine wpAnyF_one (i := 1) (by kernel_rfl) rfl rfl (fun K hK => ?_)
  go_simp
  go_at_call 74
  refine (rfraction_v h).mono ?_
  rintro e v2 ⟨s2, A2, n2, c2, D2, m2, e2, rfl, fr, hb⟩
  replace h := h.below hb
  replace h' := h'.below hb
  replace b0 := b0.below hb
  replace b1 := b1.below hb
  replace H0 := H0.trans (hb.mono H0.size)
  clear hb
  clear h
  go_wp2_with fail
  refine hK.out _ _ ⟨b1.cell 0 _ rfl, b1.cell 1 _ rfl, b1.cell 2 _ rfl⟩ ?_
  clear hK K
  (try simp only [List.getElem_toArray, List.getElem_cons_succ, List.getElem_cons_zero, Act.put, List.setIfInBounds_toArray, List.set_cons_zero, List.set_cons_succ])
  refine wpAnyF_last (i := 3) (by kernel_rfl) rfl rfl (fun K hK => ?_)
  go_simp
  go_at_call 74
  refine (rfraction_v h').mono ?_
  rintro e v3 ⟨s3, A3, n3, c3, D3, m3, e3, rfl, fs, hb⟩
  replace h' := h'.below hb
  replace fr := fr.below hb
  replace b0 := b0.below hb
  replace b1 := b1.below hb
  replace H0 := H0.trans (hb.mono H0.size)
  clear hb
  clear h'
  go_wp2_with fail
  refine hK.out _ _ ?_
  clear hK K
  (try simp only [List.getElem_toArray, List.getElem_cons_succ, List.getElem_cons_zero, Act.put, List.setIfInBounds_toArray, List.set_cons_zero, List.set_cons_succ])
  have cb00 := b0.cell 0 _ rfl
  have yb00 := b0.frozen 0
  have cb01 := b0.cell 1 _ rfl
  have yb01 := b0.frozen 1
  have cb02 := b0.cell 2 _ rfl
  have yb02 := b0.frozen 2
  refine wpAny_one (i := 4) (by kernel_rfl) rfl (fun K hK => ?_)
  go_simp
  refine hK.out _ _ ?_
  clear hK K
  (try simp only [List.getElem_toArray, List.getElem_cons_succ, List.getElem_cons_zero, Act.put, List.setIfInBounds_toArray, List.set_cons_zero, List.set_cons_succ])
  clear cb00 yb00 cb01 yb01 cb02 yb02
  have hg := only_store3 v3 (w.heap.size) (.bool s2) (.slice A2 n2 c2) (.slice D2 m2 e2)
  have hB := b0.stored3 (.bool s2) (.slice A2 n2 c2) (.slice D2 m2 e2)
  generalize hX : (((v3.setCell ⟨w.heap.size, 0, none⟩ (.bool s2)).setCell ⟨w.heap.size, 1, none⟩ (.slice A2 n2 c2)).setCell ⟨w.heap.size, 2, none⟩ (.slice D2 m2 e2)) = X4 at hg hB ⊢
  clear hX
  replace fr := fr.kept b0 (by simp [notInt]) hg
  replace fs := fs.kept b0 (by simp [notInt]) hg
  replace b1 := b1.other hg (by omega)
  replace b0 := hB
  replace H0 := below_only H0 hg (by omega) H0.size
  clear hg hB
  have cb10 := b1.cell 0 _ rfl
  have yb10 := b1.frozen 0
  have cb11 := b1.cell 1 _ rfl
  have yb11 := b1.frozen 1
  have cb12 := b1.cell 2 _ rfl
  have yb12 := b1.frozen 2
  refine wpAny_one (i := 5) (by kernel_rfl) rfl (fun K hK => ?_)
  go_simp
  refine hK.out _ _ ?_
  clear hK K
  (try simp only [List.getElem_toArray, List.getElem_cons_succ, List.getElem_cons_zero, Act.put, List.setIfInBounds_toArray, List.set_cons_zero, List.set_cons_succ])
  clear cb10 yb10 cb11 yb11 cb12 yb12
  have hg := only_store3 X4 (w.heap.size + 1) (.bool s3) (.slice A3 n3 c3) (.slice D3 m3 e3)
  have hB := b1.stored3 (.bool s3) (.slice A3 n3 c3) (.slice D3 m3 e3)
  generalize hX : (((X4.setCell ⟨w.heap.size + 1, 0, none⟩ (.bool s3)).setCell ⟨w.heap.size + 1, 1, none⟩ (.slice A3 n3 c3)).setCell ⟨w.heap.size + 1, 2, none⟩ (.slice D3 m3 e3)) = X5 at hg hB ⊢
  clear hX
  replace fr := fr.kept b1 (by simp [notInt]) hg
  replace fs := fs.kept b1 (by simp [notInt]) hg
  replace b0 := b0.other hg (by omega)
  replace b1 := hB
  replace H0 := below_only H0 hg (by omega) H0.size
  clear hg hB
  refine wpAny_done (by kernel_rfl) ?_ _
  refine NoPanic.normal ?_
  obtain ⟨z0, d0, hz0, hd0, hn0, rfl⟩ := fr
  obtain ⟨z1, d1, hz1, hd1, hn1, rfl⟩ := fs
  rw [rsg_sub hn0 hn1] at hk
  have HK := Lib.hid hk
  clear hk hn0 hn1
  have cb00 := b0.cell 0 _ rfl
  have cb01 := b0.cell 1 _ rfl
  have cb02 := b0.cell 2 _ rfl
  have cb10 := b1.cell 0 _ rfl
  have cb11 := b1.cell 1 _ rfl
  have cb12 := b1.cell 2 _ rfl
  go_wp2_with fail
  clear cb00 cb01 cb02 cb10 cb11 cb12
  have hD := drawn_below X5
  replace hz0 := hz0.below hD
  replace hd0 := hd0.below hD
  replace hz1 := hz1.below hD
  replace hd1 := hd1.below hD
  replace b0 := b0.below hD
  replace b1 := b1.below hD
  replace H0 := H0.trans (hD.mono H0.size)
  clear hD
  have K0 := (And.intro (b0.cell 0 _ rfl) (And.intro (b0.cell 1 _ rfl) (And.intro (b0.cell 2 _ rfl) (And.intro (b1.cell 0 _ rfl) (And.intro (b1.cell 1 _ rfl) (b1.cell 2 _ rfl))))))
  go_region_held3 (fun V => V.cell? ⟨w.heap.size, 0, none⟩ = some (.bool s2) ∧ V.cell? ⟨w.heap.size, 1, none⟩ = some (.slice A2 n2 c2) ∧ V.cell? ⟨w.heap.size, 2, none⟩ = some (.slice D2 m2 e2) ∧ V.cell? ⟨w.heap.size + 1, 0, none⟩ = some (.bool s3) ∧ V.cell? ⟨w.heap.size + 1, 1, none⟩ = some (.slice A3 n3 c3) ∧ V.cell? ⟨w.heap.size + 1, 2, none⟩ = some (.slice D3 m3 e3)) (first | exact K3 | exact K2 | exact K1 | exact K0 | go_keep)
    (first
      | (go_at_call 76; with_reducible refine (rscale_v hz0 hd1 (by omega) (by omega)).mono ?_; rintro e v6 ⟨s4, A4, n4, c4, rfl, f4, hb⟩; have hz0 := hz0.below hb; have hd0 := hd0.below hb; have hz1 := hz1.below hb; have hd1 := hd1.below hb; have b0 := b0.below hb; have b1 := b1.below hb; have H0 := H0.trans (hb.mono H0.size); have K1 := (And.intro (b0.cell 0 _ rfl) (And.intro (b0.cell 1 _ rfl) (And.intro (b0.cell 2 _ rfl) (And.intro (b1.cell 0 _ rfl) (And.intro (b1.cell 1 _ rfl) (b1.cell 2 _ rfl)))))); clear hb)
      | (go_at_call 76; with_reducible refine (rscale_v hz1 hd0 (by omega) (by omega)).mono ?_; rintro e v7 ⟨s5, A5, n5, c5, rfl, f5, hb⟩; have hz0 := hz0.below hb; have hd0 := hd0.below hb; have hz1 := hz1.below hb; have hd1 := hd1.below hb; have f4 := f4.below hb; have b0 := b0.below hb; have b1 := b1.below hb; have H0 := H0.trans (hb.mono H0.size); have K2 := (And.intro (b0.cell 0 _ rfl) (And.intro (b0.cell 1 _ rfl) (And.intro (b0.cell 2 _ rfl) (And.intro (b1.cell 0 _ rfl) (And.intro (b1.cell 1 _ rfl) (b1.cell 2 _ rfl)))))); clear hb)
      | (go_at_call 75; with_reducible refine (icmp_is f4.ri f5.ri HK.out).mono ?_; rintro e v8 ⟨rfl, hb⟩; have hz0 := hz0.below hb; have hd0 := hd0.below hb; have hz1 := hz1.below hb; have hd1 := hd1.below hb; have f4 := f4.below hb; have f5 := f5.below hb; have b0 := b0.below hb; have b1 := b1.below hb; have H0 := H0.trans (hb.mono H0.size); have K3 := (And.intro (b0.cell 0 _ rfl) (And.intro (b0.cell 1 _ rfl) (And.intro (b0.cell 2 _ rfl) (And.intro (b1.cell 0 _ rfl) (And.intro (b1.cell 1 _ rfl) (b1.cell 2 _ rfl)))))); clear hb)
    )
  go_wp2_with fail
  go_returns
  exact ⟨rfl, H0⟩
set_option maxRecDepth 100000 in
theorem rsum_v (h : RQ w s0 (.slice A0 n0 c0) (.slice D0 m0 e0) q L) (h' : RQ w s1 (.slice A1 n1 c1) (.slice D1 m1 e1) q' L0) (hL : L ≤ 100000) (hL' : L0 ≤ 100000) :
    Calls Tryz.prog 77 #[.agg #[.bool s0, .slice A0 n0 c0, .slice D0 m0 e0], .agg #[.bool s1, .slice A1 n1 c1, .slice D1 m1 e1]] w fun e w' => ∃ s3 A3 n3 c3 D3 m3 e3, e = .returned (.agg #[.bool s3, .slice A3 n3 c3, .slice D3 m3 e3]) ∧ RF w' s3 (.slice A3 n3 c3) (.slice D3 m3 e3) (q+q') (max L 2 + max L0 2 + 1) ∧ Below w.heap.size w w' := by
  go_enter Tryz.func77, Tryz.ntmps77
  go_wp2_with fail
  obtain ⟨W0, hW, b0, b1, b2, hbW, hszW0⟩ := boxes3 w #[.bool s0, .slice A0 n0 c0, .slice D0 m0 e0] #[.bool s1, .slice A1 n1 c1, .slice D1 m1 e1] #[.bool false, .slice none 0 0, .slice none 0 0] 63 63 63
  rw [hW]
  clear hW
  replace h := h.below hbW
  replace h' := h'.below hbW
  have H0 := hbW
  clear hbW
  have hD := drawn_below W0
  replace h := h.below hD
  replace h' := h'.below hD
  replace b0 := b0.below hD
  replace b1 := b1.below hD
  replace b2 := b2.below hD
  replace H0 := H0.trans (hD.mono H0.size)
  clear hD
  refine wp_region_noPanic ?_
  refine wp_region_F (S := (fun V => V.cell? ⟨w.heap.size + 1, 0, none⟩ = some (.bool s1) ∧ V.cell? ⟨w.heap.size + 1, 1, none⟩ = some (.slice A1 n1 c1) ∧ V.cell? ⟨w.heap.size + 1, 2, none⟩ = some (.slice D1 m1 e1))) (F := (fun j => j == 3 || j == 4 || j == 5)) (by kernel_rfl) ?_
  generalize W0.drew = v1 at h h' b0 b1 b2 H0 ⊢
  refine wpAnyF_take (i := 2) (v := ?_) (fun j => j == 3 || j == 4 || j == 5) rfl (by kernel_rfl) (by kernel_rfl) (by kernel_rfl) (by kernel_rfl) (fun j hj => by have h6 : 6 ≤ j := hj; simp; omega) (fun _ _ _ h => h) (Or.inl ⟨by rfl, ?_⟩) ⟨b1.cell 0 _ rfl, b1.cell 1 _ rfl, b1.cell 2 _ rfl⟩ ?_
  rotate_left
  · (intro w hSw; (try dsimp only at hSw); go_simp; (try with_reducible rfl))
  (try simp only [List.getElem_toArray, List.getElem_cons_succ, List.getElem_cons_zero, Act.put, List.setIfInBounds_toArray, List.set_cons_zero, List.set_cons_succ])
  have cb00 := b0.cell 0 _ rfl
  have cb01 := b0.cell 1 _ rfl
  have cb02 := b0.cell 2 _ rfl
  refine wpAnyF_one (i := 0) (by kernel_rfl) rfl rfl (fun K hK => ?_)
  go_simp
  refine hK.out _ _ ⟨b1.cell 0 _ rfl, b1.cell 1 _ rfl, b1.cell 2 _ rfl⟩ ?_
  clear hK K
  (try simp only [List.getElem_toArray, List.getElem_cons_succ, List.getElem_cons_zero, Act.put, List.setIfInBounds_toArray, List.set_cons_zero, List.set_cons_succ])
  clear cb00 cb01 cb02
  refine wpAnyF_one (i := 1) (by kernel_rfl) rfl rfl (fun K hK => ?_)
  go_simp
  go_at_call 74
  refine (rfraction_v h).mono ?_
  rintro e v2 ⟨s2, A2, n2, c2, D2, m2, e2, rfl, fr, hb⟩
  replace h := h.below hb
  replace h' := h'.below hb
  replace b0 := b0.below hb
  replace b1 := b1.below hb
  replace b2 := b2.below hb
  replace H0 := H0.trans (hb.mono H0.size)
  clear hb
  clear h
  go_wp2_with fail
  refine hK.out _ _ ⟨b1.cell 0 _ rfl, b1.cell 1 _ rfl, b1.cell 2 _ rfl⟩ ?_
  clear hK K
  (try simp only [List.getElem_toArray, List.getElem_cons_succ, List.getElem_cons_zero, Act.put, List.setIfInBounds_toArray, List.set_cons_zero, List.set_cons_succ])
  refine wpAnyF_last (i := 3) (by kernel_rfl) rfl rfl (fun K hK => ?_)
  go_simp
  go_at_call 74
  refine (rfraction_v h').mono ?_
  rintro e v3 ⟨s3, A3, n3, c3, D3, m3, e3, rfl, fs, hb⟩
  replace h' := h'.below hb
  replace fr := fr.below hb
  replace b0 := b0.below hb
  replace b1 := b1.below hb
  replace b2 := b2.below hb
  replace H0 := H0.trans (hb.mono H0.size)
  clear hb
  clear h'
  go_wp2_with fail
  refine hK.out _ _ ?_
  clear hK K
  (try simp only [List.getElem_toArray, List.getElem_cons_succ, List.getElem_cons_zero, Act.put, List.setIfInBounds_toArray, List.set_cons_zero, List.set_cons_succ])
  have cb00 := b0.cell 0 _ rfl
  have yb00 := b0.frozen 0
  have cb01 := b0.cell 1 _ rfl
  have yb01 := b0.frozen 1
  have cb02 := b0.cell 2 _ rfl
  have yb02 := b0.frozen 2
  refine wpAny_one (i := 4) (by kernel_rfl) rfl (fun K hK => ?_)
  go_simp
  refine hK.out _ _ ?_
  clear hK K
  (try simp only [List.getElem_toArray, List.getElem_cons_succ, List.getElem_cons_zero, Act.put, List.setIfInBounds_toArray, List.set_cons_zero, List.set_cons_succ])
  clear cb00 yb00 cb01 yb01 cb02 yb02
  have hg := only_store3 v3 (w.heap.size) (.bool s2) (.slice A2 n2 c2) (.slice D2 m2 e2)
  have hB := b0.stored3 (.bool s2) (.slice A2 n2 c2) (.slice D2 m2 e2)
  generalize hX : (((v3.setCell ⟨w.heap.size, 0, none⟩ (.bool s2)).setCell ⟨w.heap.size, 1, none⟩ (.slice A2 n2 c2)).setCell ⟨w.heap.size, 2, none⟩ (.slice D2 m2 e2)) = X4 at hg hB ⊢
  clear hX
  replace fr := fr.kept b0 (by simp [notInt]) hg
  replace fs := fs.kept b0 (by simp [notInt]) hg
  replace b1 := b1.other hg (by omega)
  replace b2 := b2.other hg (by omega)
  replace b0 := hB
  replace H0 := below_only H0 hg (by omega) H0.size
  clear hg hB
  have cb10 := b1.cell 0 _ rfl
  have yb10 := b1.frozen 0
  have cb11 := b1.cell 1 _ rfl
  have yb11 := b1.frozen 1
  have cb12 := b1.cell 2 _ rfl
  have yb12 := b1.frozen 2
  refine wpAny_one (i := 5) (by kernel_rfl) rfl (fun K hK => ?_)
  go_simp
  refine hK.out _ _ ?_
  clear hK K
  (try simp only [List.getElem_toArray, List.getElem_cons_succ, List.getElem_cons_zero, Act.put, List.setIfInBounds_toArray, List.set_cons_zero, List.set_cons_succ])
  clear cb10 yb10 cb11 yb11 cb12 yb12
  have hg := only_store3 X4 (w.heap.size + 1) (.bool s3) (.slice A3 n3 c3) (.slice D3 m3 e3)
  have hB := b1.stored3 (.bool s3) (.slice A3 n3 c3) (.slice D3 m3 e3)
  generalize hX : (((X4.setCell ⟨w.heap.size + 1, 0, none⟩ (.bool s3)).setCell ⟨w.heap.size + 1, 1, none⟩ (.slice A3 n3 c3)).setCell ⟨w.heap.size + 1, 2, none⟩ (.slice D3 m3 e3)) = X5 at hg hB ⊢
  clear hX
  replace fr := fr.kept b1 (by simp [notInt]) hg
  replace fs := fs.kept b1 (by simp [notInt]) hg
  replace b0 := b0.other hg (by omega)
  replace b2 := b2.other hg (by omega)
  replace b1 := hB
  replace H0 := below_only H0 hg (by omega) H0.size
  clear hg hB
  refine wpAny_done (by kernel_rfl) ?_ _
  refine NoPanic.normal ?_
  obtain ⟨z0, d0, hz0, hd0, hn0, rfl⟩ := fr
  obtain ⟨z1, d1, hz1, hd1, hn1, rfl⟩ := fs
  have cb00 := b0.cell 0 _ rfl
  have cb01 := b0.cell 1 _ rfl
  have cb02 := b0.cell 2 _ rfl
  have cb10 := b1.cell 0 _ rfl
  have cb11 := b1.cell 1 _ rfl
  have cb12 := b1.cell 2 _ rfl
  go_wp2_with fail
  clear cb00 cb01 cb02 cb10 cb11 cb12
  have hD := drawn_below X5
  replace hz0 := hz0.below hD
  replace hd0 := hd0.below hD
  replace hz1 := hz1.below hD
  replace hd1 := hd1.below hD
  replace b0 := b0.below hD
  replace b1 := b1.below hD
  replace b2 := b2.below hD
  replace H0 := H0.trans (hD.mono H0.size)
  clear hD
  have K0 := (And.intro (b0.cell 0 _ rfl) (And.intro (b0.cell 1 _ rfl) (And.intro (b0.cell 2 _ rfl) (And.intro (b1.cell 0 _ rfl) (And.intro (b1.cell 1 _ rfl) (b1.cell 2 _ rfl))))))
  go_region_held3 (fun V => V.cell? ⟨w.heap.size, 0, none⟩ = some (.bool s2) ∧ V.cell? ⟨w.heap.size, 1, none⟩ = some (.slice A2 n2 c2) ∧ V.cell? ⟨w.heap.size, 2, none⟩ = some (.slice D2 m2 e2) ∧ V.cell? ⟨w.heap.size + 1, 0, none⟩ = some (.bool s3) ∧ V.cell? ⟨w.heap.size + 1, 1, none⟩ = some (.slice A3 n3 c3) ∧ V.cell? ⟨w.heap.size + 1, 2, none⟩ = some (.slice D3 m3 e3)) (first | exact KS | exact K4 | exact K3 | exact K2 | exact K1 | exact K0 | go_keep)
    (first
      | (go_at_call 76; with_reducible refine (rscale_v hz0 hd1 (by omega) (by omega)).mono ?_; rintro e v6 ⟨s4, A4, n4, c4, rfl, f4, hb⟩; have hz0 := hz0.below hb; have hd0 := hd0.below hb; have hz1 := hz1.below hb; have hd1 := hd1.below hb; have b0 := b0.below hb; have b1 := b1.below hb; have b2 := b2.below hb; have H0 := H0.trans (hb.mono H0.size); have K1 := (And.intro (b0.cell 0 _ rfl) (And.intro (b0.cell 1 _ rfl) (And.intro (b0.cell 2 _ rfl) (And.intro (b1.cell 0 _ rfl) (And.intro (b1.cell 1 _ rfl) (b1.cell 2 _ rfl)))))); clear hb)
      | (go_at_call 76; with_reducible refine (rscale_v hz1 hd0 (by omega) (by omega)).mono ?_; rintro e v7 ⟨s5, A5, n5, c5, rfl, f5, hb⟩; have hz0 := hz0.below hb; have hd0 := hd0.below hb; have hz1 := hz1.below hb; have hd1 := hd1.below hb; have f4 := f4.below hb; have b0 := b0.below hb; have b1 := b1.below hb; have b2 := b2.below hb; have H0 := H0.trans (hb.mono H0.size); have K2 := (And.intro (b0.cell 0 _ rfl) (And.intro (b0.cell 1 _ rfl) (And.intro (b0.cell 2 _ rfl) (And.intro (b1.cell 0 _ rfl) (And.intro (b1.cell 1 _ rfl) (b1.cell 2 _ rfl)))))); clear hb)
      | (go_at_call 105; with_reducible refine (iadd_v f4.ri f5.ri (by omega) (by omega)).mono ?_; rintro e v8 ⟨s6, A6, n6, c6, rfl, f6, hb⟩; have hz0 := hz0.below hb; have hd0 := hd0.below hb; have hz1 := hz1.below hb; have hd1 := hd1.below hb; have f4 := f4.below hb; have f5 := f5.below hb; have b0 := b0.below hb; have b1 := b1.below hb; have b2 := b2.below hb; have H0 := H0.trans (hb.mono H0.size); clear f4; clear f5; have K3 := (And.intro (b0.cell 0 _ rfl) (And.intro (b0.cell 1 _ rfl) (And.intro (b0.cell 2 _ rfl) (And.intro (b1.cell 0 _ rfl) (And.intro (b1.cell 1 _ rfl) (b1.cell 2 _ rfl)))))); clear hb)
      | (go_at_call 106; with_reducible refine (mul_v hd0 hd1 (by omega) (by omega)).mono ?_; rintro e v9 ⟨D6, m6, e6, rfl, f7, hb⟩; have hz0 := hz0.below hb; have hd0 := hd0.below hb; have hz1 := hz1.below hb; have hd1 := hd1.below hb; have f6 := f6.below hb; have b0 := b0.below hb; have b1 := b1.below hb; have b2 := b2.below hb; have H0 := H0.trans (hb.mono H0.size); have K4 := (And.intro (b0.cell 0 _ rfl) (And.intro (b0.cell 1 _ rfl) (And.intro (b0.cell 2 _ rfl) (And.intro (b1.cell 0 _ rfl) (And.intro (b1.cell 1 _ rfl) (b1.cell 2 _ rfl)))))); have r0 := b2.cell 0 _ rfl; have f_0 := b2.frozen 0; have r1 := b2.cell 1 _ rfl; have f_1 := b2.frozen 1; have r2 := b2.cell 2 _ rfl; have f_2 := b2.frozen 2; have hg := only_store3 v9 (w.heap.size + 1 + 1) (.bool s6) (.slice A6 n6 c6) (.slice D6 m6 e6); have KS := (And.intro ((b0.other hg (by omega)).cell 0 _ rfl) (And.intro ((b0.other hg (by omega)).cell 1 _ rfl) (And.intro ((b0.other hg (by omega)).cell 2 _ rfl) (And.intro ((b1.other hg (by omega)).cell 0 _ rfl) (And.intro ((b1.other hg (by omega)).cell 1 _ rfl) ((b1.other hg (by omega)).cell 2 _ rfl)))))); clear hb)
    )
  have hB := b2.stored3 (.bool s6) (.slice A6 n6 c6) (.slice D6 m6 e6)
  go_wp2_with fail
  generalize hX : (((v9.setCell ⟨w.heap.size + 1 + 1, 0, none⟩ (.bool s6)).setCell ⟨w.heap.size + 1 + 1, 1, none⟩ (.slice A6 n6 c6)).setCell ⟨w.heap.size + 1 + 1, 2, none⟩ (.slice D6 m6 e6)) = X10 at hg hB ⊢
  clear hX r0 f_0 r1 f_1 r2 f_2
  replace hz0 := hz0.kept b2 (by simp [notInt]) hg
  replace hd0 := hd0.kept b2 (by simp [notInt]) hg
  replace hz1 := hz1.kept b2 (by simp [notInt]) hg
  replace hd1 := hd1.kept b2 (by simp [notInt]) hg
  replace f6 := f6.kept b2 (by simp [notInt]) hg
  replace f7 := f7.kept b2 (by simp [notInt]) hg
  replace b0 := b0.other hg (by omega)
  replace b1 := b1.other hg (by omega)
  replace b2 := hB
  replace H0 := below_only H0 hg (by omega) H0.size
  clear hg hB
  refine bodyPost_ret (ret_rat rfl rfl b2) rfl ?_
  exact ⟨s6, A6, n6, c6, D6, m6, e6, rfl, ⟨_, _, f6.ri.more (by omega), f7.rv.more (by omega), Nat.mul_ne_zero hn0 hn1, Rat.mkRat_add_mkRat _ _ hn0 hn1⟩, H0⟩
set_option maxRecDepth 100000 in
theorem radd_v (h : RQ w s0 (.slice A0 n0 c0) (.slice D0 m0 e0) q L) (h' : RQ w s1 (.slice A1 n1 c1) (.slice D1 m1 e1) q' L0) (hL : L ≤ 100000) (hL' : L0 ≤ 100000) :
    Calls Tryz.prog 81 #[.agg #[.bool s0, .slice A0 n0 c0, .slice D0 m0 e0], .agg #[.bool s1, .slice A1 n1 c1, .slice D1 m1 e1]] w fun e w' => ∃ s3 A3 n3 c3 D3 m3 e3, e = .returned (.agg #[.bool s3, .slice A3 n3 c3, .slice D3 m3 e3]) ∧ NQ w' s3 (.slice A3 n3 c3) (.slice D3 m3 e3) (q+q') (max L 2 + max L0 2 + 1) ∧ Below w.heap.size w w' := by
  go_enter Tryz.func81, Tryz.ntmps81
  go_wp2_with fail
  obtain ⟨W0, hW, b0, b1, b2, hbW, hszW0⟩ := boxes3 w #[.bool s0, .slice A0 n0 c0, .slice D0 m0 e0] #[.bool s1, .slice A1 n1 c1, .slice D1 m1 e1] #[.bool false, .slice none 0 0, .slice none 0 0] 63 63 63
  rw [hW]
  clear hW
  replace h := h.below hbW
  replace h' := h'.below hbW
  have H0 := hbW
  clear hbW
  have cb00 := b0.cell 0 _ rfl
  have cb01 := b0.cell 1 _ rfl
  have cb02 := b0.cell 2 _ rfl
  have cb10 := b1.cell 0 _ rfl
  have cb11 := b1.cell 1 _ rfl
  have cb12 := b1.cell 2 _ rfl
  go_wp2_with fail
  clear cb00 cb01 cb02 cb10 cb11 cb12
  refine (rsum_v h h' hL hL').mono ?_
  rintro e w1 ⟨s4, A4, n4, c4, D4, m4, e4, rfl, fr, hb⟩
  replace h := h.below hb
  replace h' := h'.below hb
  replace b0 := b0.below hb
  replace b1 := b1.below hb
  replace b2 := b2.below hb
  replace H0 := H0.trans (hb.mono H0.size)
  clear hb
  go_wp2_with fail
  refine (rnorm_v fr.rq (by omega)).mono ?_
  rintro e w2 ⟨s3, A3, n3, c3, D3, m3, e3, rfl, fq, hb⟩
  replace h := h.below hb
  replace h' := h'.below hb
  replace fr := fr.below hb
  replace b0 := b0.below hb
  replace b1 := b1.below hb
  replace b2 := b2.below hb
  replace H0 := H0.trans (hb.mono H0.size)
  clear hb
  have cb20 := b2.cell 0 _ rfl
  have yb20 := b2.frozen 0
  have cb21 := b2.cell 1 _ rfl
  have yb21 := b2.frozen 1
  have cb22 := b2.cell 2 _ rfl
  have yb22 := b2.frozen 2
  go_wp2_with fail
  clear cb20 yb20 cb21 yb21 cb22 yb22
  have hg := only_store3 w2 (w.heap.size + 1 + 1) (.bool s3) (.slice A3 n3 c3) (.slice D3 m3 e3)
  have hB := b2.stored3 (.bool s3) (.slice A3 n3 c3) (.slice D3 m3 e3)
  generalize hX : (((w2.setCell ⟨w.heap.size + 1 + 1, 0, none⟩ (.bool s3)).setCell ⟨w.heap.size + 1 + 1, 1, none⟩ (.slice A3 n3 c3)).setCell ⟨w.heap.size + 1 + 1, 2, none⟩ (.slice D3 m3 e3)) = X3 at hg hB ⊢
  clear hX
  replace h := h.kept b2 (by simp [notInt]) hg
  replace h' := h'.kept b2 (by simp [notInt]) hg
  replace fr := fr.kept b2 (by simp [notInt]) hg
  replace fq := fq.kept b2 (by simp [notInt]) hg
  replace b0 := b0.other hg (by omega)
  replace b1 := b1.other hg (by omega)
  replace b2 := hB
  replace H0 := below_only H0 hg (by omega) H0.size
  clear hg hB
  refine bodyPost_ret (ret_rat rfl rfl b2) rfl ?_
  exact ⟨s3, A3, n3, c3, D3, m3, e3, rfl, fq.more (by omega), H0⟩
set_option maxRecDepth 100000 in
theorem rsub_v (h : RQ w s0 (.slice A0 n0 c0) (.slice D0 m0 e0) q L) (h' : RQ w s1 (.slice A1 n1 c1) (.slice D1 m1 e1) q' L0) (hL : L ≤ 100000) (hL' : L0 ≤ 100000) :
    Calls Tryz.prog 111 #[.agg #[.bool s0, .slice A0 n0 c0, .slice D0 m0 e0], .agg #[.bool s1, .slice A1 n1 c1, .slice D1 m1 e1]] w fun e w' => ∃ s3 A3 n3 c3 D3 m3 e3, e = .returned (.agg #[.bool s3, .slice A3 n3 c3, .slice D3 m3 e3]) ∧ NQ w' s3 (.slice A3 n3 c3) (.slice D3 m3 e3) (q-q') (max L 2 + max L0 2 + 1) ∧ Below w.heap.size w w' := by
  go_enter Tryz.func111, Tryz.ntmps111
  go_wp2_with fail
  obtain ⟨W0, hW, b0, b1, b2, hbW, hszW0⟩ := boxes3 w #[.bool s0, .slice A0 n0 c0, .slice D0 m0 e0] #[.bool (!s1), .slice A1 n1 c1, .slice D1 m1 e1] #[.bool false, .slice none 0 0, .slice none 0 0] 63 63 63
  rw [hW]
  clear hW
  replace h := h.below hbW
  replace h' := h'.below hbW
  have H0 := hbW
  clear hbW
  replace h' := h'.flip
  refine (radd_v h h' hL hL').mono ?_
  rintro e w1 ⟨s3, A3, n3, c3, D3, m3, e3, rfl, fq, hb⟩
  replace h := h.below hb
  replace h' := h'.below hb
  replace b0 := b0.below hb
  replace b1 := b1.below hb
  replace b2 := b2.below hb
  replace H0 := H0.trans (hb.mono H0.size)
  clear hb
  have cb20 := b2.cell 0 _ rfl
  have yb20 := b2.frozen 0
  have cb21 := b2.cell 1 _ rfl
  have yb21 := b2.frozen 1
  have cb22 := b2.cell 2 _ rfl
  have yb22 := b2.frozen 2
  go_wp2_with fail
  clear cb20 yb20 cb21 yb21 cb22 yb22
  have hg := only_store3 w1 (w.heap.size + 1 + 1) (.bool s3) (.slice A3 n3 c3) (.slice D3 m3 e3)
  have hB := b2.stored3 (.bool s3) (.slice A3 n3 c3) (.slice D3 m3 e3)
  generalize hX : (((w1.setCell ⟨w.heap.size + 1 + 1, 0, none⟩ (.bool s3)).setCell ⟨w.heap.size + 1 + 1, 1, none⟩ (.slice A3 n3 c3)).setCell ⟨w.heap.size + 1 + 1, 2, none⟩ (.slice D3 m3 e3)) = X2 at hg hB ⊢
  clear hX
  replace h := h.kept b2 (by simp [notInt]) hg
  replace h' := h'.kept b2 (by simp [notInt]) hg
  replace fq := fq.kept b2 (by simp [notInt]) hg
  replace b0 := b0.other hg (by omega)
  replace b1 := b1.other hg (by omega)
  replace b2 := hB
  replace H0 := below_only H0 hg (by omega) H0.size
  clear hg hB
  refine bodyPost_ret (ret_rat rfl rfl b2) rfl ?_
  exact ⟨s3, A3, n3, c3, D3, m3, e3, rfl, by rw [Rat.sub_eq_add_neg]; exact fq, H0⟩
set_option maxRecDepth 100000 in
theorem rmul_v (h : RQ w s0 (.slice A0 n0 c0) (.slice D0 m0 e0) q L) (h' : RQ w s1 (.slice A1 n1 c1) (.slice D1 m1 e1) q' L0) (hL : L ≤ 100000) (hL' : L0 ≤ 100000) :
    Calls Tryz.prog 112 #[.agg #[.bool s0, .slice A0 n0 c0, .slice D0 m0 e0], .agg #[.bool s1, .slice A1 n1 c1, .slice D1 m1 e1]] w fun e w' => ∃ s3 A3 n3 c3 D3 m3 e3, e = .returned (.agg #[.bool s3, .slice A3 n3 c3, .slice D3 m3 e3]) ∧ NQ w' s3 (.slice A3 n3 c3) (.slice D3 m3 e3) (q*q') (max L 2 + max L0 2 + 1) ∧ Below w.heap.size w w' := by
  go_enter Tryz.func112, Tryz.ntmps112
  go_wp2_with fail
  obtain ⟨W0, hW, b0, b1, b2, hbW, hszW0⟩ := boxes3 w #[.bool s0, .slice A0 n0 c0, .slice D0 m0 e0] #[.bool s1, .slice A1 n1 c1, .slice D1 m1 e1] #[.bool false, .slice none 0 0, .slice none 0 0] 63 63 63
  rw [hW]
  clear hW
  replace h := h.below hbW
  replace h' := h'.below hbW
  have H0 := hbW
  clear hbW
  have hD := drawn_below W0
  replace h := h.below hD
  replace h' := h'.below hD
  replace b0 := b0.below hD
  replace b1 := b1.below hD
  replace b2 := b2.below hD
  replace H0 := H0.trans (hD.mono H0.size)
  clear hD
  refine wp_region_noPanic ?_
  refine wp_region_F (S := (fun V => V.cell? ⟨w.heap.size + 1, 0, none⟩ = some (.bool s1) ∧ V.cell? ⟨w.heap.size + 1, 1, none⟩ = some (.slice A1 n1 c1) ∧ V.cell? ⟨w.heap.size + 1, 2, none⟩ = some (.slice D1 m1 e1))) (F := (fun j => j == 3 || j == 4 || j == 5)) (by kernel_rfl) ?_
  generalize W0.drew = v1 at h h' b0 b1 b2 H0 ⊢
  refine wpAnyF_take (i := 2) (v := ?_) (fun j => j == 3 || j == 4 || j == 5) rfl (by kernel_rfl) (by kernel_rfl) (by kernel_rfl) (by kernel_rfl) (fun j hj => by have h6 : 6 ≤ j := hj; simp; omega) (fun _ _ _ h => h) (Or.inl ⟨by rfl, ?_⟩) ⟨b1.cell 0 _ rfl, b1.cell 1 _ rfl, b1.cell 2 _ rfl⟩ ?_
  rotate_left
  · (intro w hSw; (try dsimp only at hSw); go_simp; (try with_reducible rfl))
  (try simp only [List.getElem_toArray, List.getElem_cons_succ, List.getElem_cons_zero, Act.put, List.setIfInBounds_toArray, List.set_cons_zero, List.set_cons_succ])
  have cb00 := b0.cell 0 _ rfl
  have cb01 := b0.cell 1 _ rfl
  have cb02 := b0.cell 2 _ rfl
  refine wpAnyF_one (i := 0) (by kernel_rfl) rfl rfl (fun K hK => ?_)
  go_simp
  refine hK.out _ _ ⟨b1.cell 0 _ rfl, b1.cell 1 _ rfl, b1.cell 2 _ rfl⟩ ?_
  clear hK K
  (try simp only [List.getElem_toArray, List.getElem_cons_succ, List.getElem_cons_zero, Act.put, List.setIfInBounds_toArray, List.set_cons_zero, List.set_cons_succ])
  clear cb00 cb01 cb02
  refine wpAnyF_one (i := 1) (by kernel_rfl) rfl rfl (fun K hK => ?_)
  go_simp
  go_at_call 74
  refine (rfraction_v h).mono ?_
  rintro e v2 ⟨s2, A2, n2, c2, D2, m2, e2, rfl, fr, hb⟩
  replace h := h.below hb
  replace h' := h'.below hb
  replace b0 := b0.below hb
  replace b1 := b1.below hb
  replace b2 := b2.below hb
  replace H0 := H0.trans (hb.mono H0.size)
  clear hb
  clear h
  go_wp2_with fail
  refine hK.out _ _ ⟨b1.cell 0 _ rfl, b1.cell 1 _ rfl, b1.cell 2 _ rfl⟩ ?_
  clear hK K
  (try simp only [List.getElem_toArray, List.getElem_cons_succ, List.getElem_cons_zero, Act.put, List.setIfInBounds_toArray, List.set_cons_zero, List.set_cons_succ])
  refine wpAnyF_last (i := 3) (by kernel_rfl) rfl rfl (fun K hK => ?_)
  go_simp
  go_at_call 74
  refine (rfraction_v h').mono ?_
  rintro e v3 ⟨s3, A3, n3, c3, D3, m3, e3, rfl, fs, hb⟩
  replace h' := h'.below hb
  replace fr := fr.below hb
  replace b0 := b0.below hb
  replace b1 := b1.below hb
  replace b2 := b2.below hb
  replace H0 := H0.trans (hb.mono H0.size)
  clear hb
  clear h'
  go_wp2_with fail
  refine hK.out _ _ ?_
  clear hK K
  (try simp only [List.getElem_toArray, List.getElem_cons_succ, List.getElem_cons_zero, Act.put, List.setIfInBounds_toArray, List.set_cons_zero, List.set_cons_succ])
  have cb00 := b0.cell 0 _ rfl
  have yb00 := b0.frozen 0
  have cb01 := b0.cell 1 _ rfl
  have yb01 := b0.frozen 1
  have cb02 := b0.cell 2 _ rfl
  have yb02 := b0.frozen 2
  refine wpAny_one (i := 4) (by kernel_rfl) rfl (fun K hK => ?_)
  go_simp
  refine hK.out _ _ ?_
  clear hK K
  (try simp only [List.getElem_toArray, List.getElem_cons_succ, List.getElem_cons_zero, Act.put, List.setIfInBounds_toArray, List.set_cons_zero, List.set_cons_succ])
  clear cb00 yb00 cb01 yb01 cb02 yb02
  have hg := only_store3 v3 (w.heap.size) (.bool s2) (.slice A2 n2 c2) (.slice D2 m2 e2)
  have hB := b0.stored3 (.bool s2) (.slice A2 n2 c2) (.slice D2 m2 e2)
  generalize hX : (((v3.setCell ⟨w.heap.size, 0, none⟩ (.bool s2)).setCell ⟨w.heap.size, 1, none⟩ (.slice A2 n2 c2)).setCell ⟨w.heap.size, 2, none⟩ (.slice D2 m2 e2)) = X4 at hg hB ⊢
  clear hX
  replace fr := fr.kept b0 (by simp [notInt]) hg
  replace fs := fs.kept b0 (by simp [notInt]) hg
  replace b1 := b1.other hg (by omega)
  replace b2 := b2.other hg (by omega)
  replace b0 := hB
  replace H0 := below_only H0 hg (by omega) H0.size
  clear hg hB
  have cb10 := b1.cell 0 _ rfl
  have yb10 := b1.frozen 0
  have cb11 := b1.cell 1 _ rfl
  have yb11 := b1.frozen 1
  have cb12 := b1.cell 2 _ rfl
  have yb12 := b1.frozen 2
  refine wpAny_one (i := 5) (by kernel_rfl) rfl (fun K hK => ?_)
  go_simp
  refine hK.out _ _ ?_
  clear hK K
  (try simp only [List.getElem_toArray, List.getElem_cons_succ, List.getElem_cons_zero, Act.put, List.setIfInBounds_toArray, List.set_cons_zero, List.set_cons_succ])
  clear cb10 yb10 cb11 yb11 cb12 yb12
  have hg := only_store3 X4 (w.heap.size + 1) (.bool s3) (.slice A3 n3 c3) (.slice D3 m3 e3)
  have hB := b1.stored3 (.bool s3) (.slice A3 n3 c3) (.slice D3 m3 e3)
  generalize hX : (((X4.setCell ⟨w.heap.size + 1, 0, none⟩ (.bool s3)).setCell ⟨w.heap.size + 1, 1, none⟩ (.slice A3 n3 c3)).setCell ⟨w.heap.size + 1, 2, none⟩ (.slice D3 m3 e3)) = X5 at hg hB ⊢
  clear hX
  replace fr := fr.kept b1 (by simp [notInt]) hg
  replace fs := fs.kept b1 (by simp [notInt]) hg
  replace b0 := b0.other hg (by omega)
  replace b2 := b2.other hg (by omega)
  replace b1 := hB
  replace H0 := below_only H0 hg (by omega) H0.size
  clear hg hB
  refine wpAny_done (by kernel_rfl) ?_ _
  refine NoPanic.normal ?_
  obtain ⟨z0, d0, hz0, hd0, hn0, rfl⟩ := fr
  obtain ⟨z1, d1, hz1, hd1, hn1, rfl⟩ := fs
  have cb00 := b0.cell 0 _ rfl
  have cb01 := b0.cell 1 _ rfl
  have cb02 := b0.cell 2 _ rfl
  have cb10 := b1.cell 0 _ rfl
  have cb11 := b1.cell 1 _ rfl
  have cb12 := b1.cell 2 _ rfl
  go_wp2_with fail
  clear cb00 cb01 cb02 cb10 cb11 cb12
  have hD := drawn_below X5
  replace hz0 := hz0.below hD
  replace hd0 := hd0.below hD
  replace hz1 := hz1.below hD
  replace hd1 := hd1.below hD
  replace b0 := b0.below hD
  replace b1 := b1.below hD
  replace b2 := b2.below hD
  replace H0 := H0.trans (hD.mono H0.size)
  clear hD
  have K0 := (And.intro (b0.cell 0 _ rfl) (And.intro (b0.cell 1 _ rfl) (And.intro (b0.cell 2 _ rfl) (And.intro (b1.cell 0 _ rfl) (And.intro (b1.cell 1 _ rfl) (b1.cell 2 _ rfl))))))
  go_region_held3 (fun V => V.cell? ⟨w.heap.size, 0, none⟩ = some (.bool s2) ∧ V.cell? ⟨w.heap.size, 1, none⟩ = some (.slice A2 n2 c2) ∧ V.cell? ⟨w.heap.size, 2, none⟩ = some (.slice D2 m2 e2) ∧ V.cell? ⟨w.heap.size + 1, 0, none⟩ = some (.bool s3) ∧ V.cell? ⟨w.heap.size + 1, 1, none⟩ = some (.slice A3 n3 c3) ∧ V.cell? ⟨w.heap.size + 1, 2, none⟩ = some (.slice D3 m3 e3)) (first | exact KS | exact K3 | exact K2 | exact K1 | exact K0 | go_keep)
    (first
      | (go_at_call 104; with_reducible refine (imul_v hz0 hz1 (by omega) (by omega)).mono ?_; rintro e v6 ⟨s6, A6, n6, c6, rfl, f6, hb⟩; have hz0 := hz0.below hb; have hd0 := hd0.below hb; have hz1 := hz1.below hb; have hd1 := hd1.below hb; have b0 := b0.below hb; have b1 := b1.below hb; have b2 := b2.below hb; have H0 := H0.trans (hb.mono H0.size); have K1 := (And.intro (b0.cell 0 _ rfl) (And.intro (b0.cell 1 _ rfl) (And.intro (b0.cell 2 _ rfl) (And.intro (b1.cell 0 _ rfl) (And.intro (b1.cell 1 _ rfl) (b1.cell 2 _ rfl)))))); clear hb)
      | (go_at_call 106; with_reducible refine (mul_v hd0 hd1 (by omega) (by omega)).mono ?_; rintro e v7 ⟨D6, m6, e6, rfl, f7, hb⟩; have hz0 := hz0.below hb; have hd0 := hd0.below hb; have hz1 := hz1.below hb; have hd1 := hd1.below hb; have f6 := f6.below hb; have b0 := b0.below hb; have b1 := b1.below hb; have b2 := b2.below hb; have H0 := H0.trans (hb.mono H0.size); have K2 := (And.intro (b0.cell 0 _ rfl) (And.intro (b0.cell 1 _ rfl) (And.intro (b0.cell 2 _ rfl) (And.intro (b1.cell 0 _ rfl) (And.intro (b1.cell 1 _ rfl) (b1.cell 2 _ rfl)))))); clear hb)
      | (go_at_call 78; with_reducible refine (rlowest_v f6.ri f7.rv (Nat.mul_ne_zero hn0 hn1) (by omega)).mono ?_; rintro e v8 ⟨s3, A3, n3, c3, D3, m3, e3, rfl, fq, hb⟩; have hz0 := hz0.below hb; have hd0 := hd0.below hb; have hz1 := hz1.below hb; have hd1 := hd1.below hb; have f6 := f6.below hb; have f7 := f7.below hb; have b0 := b0.below hb; have b1 := b1.below hb; have b2 := b2.below hb; have H0 := H0.trans (hb.mono H0.size); clear f6; clear f7; have K3 := (And.intro (b0.cell 0 _ rfl) (And.intro (b0.cell 1 _ rfl) (And.intro (b0.cell 2 _ rfl) (And.intro (b1.cell 0 _ rfl) (And.intro (b1.cell 1 _ rfl) (b1.cell 2 _ rfl)))))); have r0 := b2.cell 0 _ rfl; have f_0 := b2.frozen 0; have r1 := b2.cell 1 _ rfl; have f_1 := b2.frozen 1; have r2 := b2.cell 2 _ rfl; have f_2 := b2.frozen 2; have hg := only_store3 v8 (w.heap.size + 1 + 1) (.bool s3) (.slice A3 n3 c3) (.slice D3 m3 e3); have KS := (And.intro ((b0.other hg (by omega)).cell 0 _ rfl) (And.intro ((b0.other hg (by omega)).cell 1 _ rfl) (And.intro ((b0.other hg (by omega)).cell 2 _ rfl) (And.intro ((b1.other hg (by omega)).cell 0 _ rfl) (And.intro ((b1.other hg (by omega)).cell 1 _ rfl) ((b1.other hg (by omega)).cell 2 _ rfl)))))); clear hb)
    )
  have hB := b2.stored3 (.bool s3) (.slice A3 n3 c3) (.slice D3 m3 e3)
  go_wp2_with fail
  generalize hX : (((v8.setCell ⟨w.heap.size + 1 + 1, 0, none⟩ (.bool s3)).setCell ⟨w.heap.size + 1 + 1, 1, none⟩ (.slice A3 n3 c3)).setCell ⟨w.heap.size + 1 + 1, 2, none⟩ (.slice D3 m3 e3)) = X9 at hg hB ⊢
  clear hX r0 f_0 r1 f_1 r2 f_2
  replace hz0 := hz0.kept b2 (by simp [notInt]) hg
  replace hd0 := hd0.kept b2 (by simp [notInt]) hg
  replace hz1 := hz1.kept b2 (by simp [notInt]) hg
  replace hd1 := hd1.kept b2 (by simp [notInt]) hg
  replace fq := fq.kept b2 (by simp [notInt]) hg
  replace b0 := b0.other hg (by omega)
  replace b1 := b1.other hg (by omega)
  replace b2 := hB
  replace H0 := below_only H0 hg (by omega) H0.size
  clear hg hB
  refine bodyPost_ret (ret_rat rfl rfl b2) rfl ?_
  exact ⟨s3, A3, n3, c3, D3, m3, e3, rfl, by rw [Rat.mkRat_mul_mkRat]; exact fq.more (by omega), H0⟩
end
end Go.Proofs.YthmmnmajkeoaaabGreatDoor
namespace Go.Proofs.YthmmnmajkeoaaabGreatDoor
open Go.RowKit

section
variable {A0 A1 A2 A3 D0 D1 D2 D3 : Option Addr} {n0 n1 n2 n3 c0 c1 c2 c3 m0 m1 m2 m3 e0 e1 e2 e3 : Nat} {s0 s1 s2 s3 : Bool} {z z' z0 z1 z2 : Int} {q q' q0 q1 q2 : Rat} {L L0 L1 L2 x x0 x1 y : Nat} {k : Int} {w : World}
theorem div_mk {z0 z1 : Int} {d0 d1 : Nat} : mkRat z0 d0 / mkRat z1 d1 = Rat.divInt (z0 * (d1 : Int)) (z1 * (d0 : Int)) := by
  rw [Rat.div_def, ← Rat.divInt_ofNat z1 d1, Rat.inv_divInt, ← Rat.divInt_ofNat z0 d0, Rat.divInt_mul_divInt, Int.mul_comm (d0 : Int) z1]
theorem mid_mk {q : Rat} {z : Int} {d : Nat} (h : q = mkRat z d) : mkRat z (d * 2 ^ 1) = q / 2 := by
  have h2 : (2 : Rat) = mkRat 2 1 := rfl
  rw [h, h2, div_mk, Int.natCast_one, Int.mul_one, show (2 : Int) * (d : Int) = ((d * 2 ^ 1 : Nat) : Int) by omega, Rat.divInt_ofNat]
theorem shl1_v (hx : RV w (.slice A0 n0 c0) x L) (hL : L ≤ 1000000) :
    Calls Tryz.prog 79 #[.slice A0 n0 c0, .int .u64 1] w fun e w' => ∃ B m d, e = .returned (.slice B m d) ∧ NV w' (.slice B m d) (x * 2 ^ 1) (L + 1) ∧ Below w.heap.size w w' := by
  have hb := hx.lt
  refine (shl_v hx hL 1 (by omega)).mono ?_
  rintro e w' ⟨B, m, d, rfl, h, h'⟩
  exact ⟨B, m, d, rfl, ⟨h.1, by rw [Bs_succ]; omega⟩, h'⟩
set_option maxRecDepth 100000 in
theorem rmiddle_v (h : RQ w s0 (.slice A0 n0 c0) (.slice D0 m0 e0) q L) (h' : RQ w s1 (.slice A1 n1 c1) (.slice D1 m1 e1) q' L0) (hL : L ≤ 100000) (hL' : L0 ≤ 100000) :
    Calls Tryz.prog 50 #[.agg #[.bool s0, .slice A0 n0 c0, .slice D0 m0 e0], .agg #[.bool s1, .slice A1 n1 c1, .slice D1 m1 e1]] w fun e w' => ∃ s3 A3 n3 c3 D3 m3 e3, e = .returned (.agg #[.bool s3, .slice A3 n3 c3, .slice D3 m3 e3]) ∧ NQ w' s3 (.slice A3 n3 c3) (.slice D3 m3 e3) ((q+q')/2) (max L 2 + max L0 2 + 1 + 1) ∧ Below w.heap.size w w' := by
  go_enter Tryz.func50, Tryz.ntmps50
  go_wp2_with fail
  obtain ⟨W0, hW, b0, b1, b2, hbW, hszW0⟩ := boxes3 w #[.bool s0, .slice A0 n0 c0, .slice D0 m0 e0] #[.bool s1, .slice A1 n1 c1, .slice D1 m1 e1] #[.bool false, .slice none 0 0, .slice none 0 0] 63 63 63
  rw [hW]
  clear hW
  replace h := h.below hbW
  replace h' := h'.below hbW
  have H0 := hbW
  clear hbW
  have cb00 := b0.cell 0 _ rfl
  have cb01 := b0.cell 1 _ rfl
  have cb02 := b0.cell 2 _ rfl
  have cb10 := b1.cell 0 _ rfl
  have cb11 := b1.cell 1 _ rfl
  have cb12 := b1.cell 2 _ rfl
  go_wp2_with fail
  clear cb00 cb01 cb02 cb10 cb11 cb12
  refine (rsum_v h h' hL hL').mono ?_
  rintro e w1 ⟨s4, A4, n4, c4, D4, m4, e4, rfl, fr, hb⟩
  replace h := h.below hb
  replace h' := h'.below hb
  replace b0 := b0.below hb
  replace b1 := b1.below hb
  replace b2 := b2.below hb
  replace H0 := H0.trans (hb.mono H0.size)
  clear hb
  go_wp2_with fail
  clear h
  clear h'
  have lb0_2 := b0.lt
  have lb1_2 := b1.lt
  have lb2_2 := b2.lt
  obtain ⟨W2, hW, b4, hbW, hszW2⟩ := boxes1 w1 #[.bool s4, .slice A4 n4 c4, .slice D4 m4 e4] 63
  rw [hW]
  clear hW
  replace fr := fr.below hbW
  replace b0 := b0.below hbW
  replace b1 := b1.below hbW
  replace b2 := b2.below hbW
  replace H0 := H0.trans (hbW.mono H0.size)
  clear hbW
  obtain ⟨z, d, hz, hd, hn, hq⟩ := fr
  have HQ := Lib.hid (mid_mk hq)
  have HN : Hid (d * 2 ^ 1 ≠ 0) := Lib.hid (by omega)
  clear hn hq
  have hD := drawn_below W2
  replace hz := hz.below hD
  replace hd := hd.below hD
  replace b0 := b0.below hD
  replace b1 := b1.below hD
  replace b2 := b2.below hD
  replace b4 := b4.below hD
  replace H0 := H0.trans (hD.mono H0.size)
  clear hD
  have K0 := (And.intro (b4.cell 0 _ rfl) (And.intro (b4.cell 1 _ rfl) (b4.cell 2 _ rfl)))
  go_region_held3 (fun V => V.cell? ⟨w1.heap.size, 0, none⟩ = some (.bool s4) ∧ V.cell? ⟨w1.heap.size, 1, none⟩ = some (.slice A4 n4 c4) ∧ V.cell? ⟨w1.heap.size, 2, none⟩ = some (.slice D4 m4 e4)) (first | exact KS | exact K2 | exact K1 | exact K0 | go_keep)
    (first
      | (go_at_call 79; with_reducible refine (shl1_v hd (by omega)).mono ?_; rintro e v3 ⟨D5, m5, e5, rfl, f5, hb⟩; have hz := hz.below hb; have hd := hd.below hb; have b0 := b0.below hb; have b1 := b1.below hb; have b2 := b2.below hb; have b4 := b4.below hb; have H0 := H0.trans (hb.mono H0.size); have K1 := (And.intro (b4.cell 0 _ rfl) (And.intro (b4.cell 1 _ rfl) (b4.cell 2 _ rfl))); clear hb)
      | (go_at_call 78; with_reducible refine (rlowest_v (hz.more (by omega)) f5.rv HN.out (by omega)).mono ?_; rintro e v4 ⟨s3, A3, n3, c3, D3, m3, e3, rfl, fq, hb⟩; have hz := hz.below hb; have hd := hd.below hb; have f5 := f5.below hb; have b0 := b0.below hb; have b1 := b1.below hb; have b2 := b2.below hb; have b4 := b4.below hb; have H0 := H0.trans (hb.mono H0.size); clear f5; have K2 := (And.intro (b4.cell 0 _ rfl) (And.intro (b4.cell 1 _ rfl) (b4.cell 2 _ rfl))); have r0 := b2.cell 0 _ rfl; have f_0 := b2.frozen 0; have r1 := b2.cell 1 _ rfl; have f_1 := b2.frozen 1; have r2 := b2.cell 2 _ rfl; have f_2 := b2.frozen 2; have hg := only_store3 v4 (w.heap.size + 1 + 1) (.bool s3) (.slice A3 n3 c3) (.slice D3 m3 e3); have KS := (And.intro ((b4.other hg (by omega)).cell 0 _ rfl) (And.intro ((b4.other hg (by omega)).cell 1 _ rfl) ((b4.other hg (by omega)).cell 2 _ rfl))); clear hb)
    )
  have hB := b2.stored3 (.bool s3) (.slice A3 n3 c3) (.slice D3 m3 e3)
  go_wp2_with fail
  generalize hX : (((v4.setCell ⟨w.heap.size + 1 + 1, 0, none⟩ (.bool s3)).setCell ⟨w.heap.size + 1 + 1, 1, none⟩ (.slice A3 n3 c3)).setCell ⟨w.heap.size + 1 + 1, 2, none⟩ (.slice D3 m3 e3)) = X5 at hg hB ⊢
  clear hX r0 f_0 r1 f_1 r2 f_2
  replace hz := hz.kept b2 (by simp [notInt]) hg
  replace hd := hd.kept b2 (by simp [notInt]) hg
  replace fq := fq.kept b2 (by simp [notInt]) hg
  replace b0 := b0.other hg (by omega)
  replace b1 := b1.other hg (by omega)
  replace b4 := b4.other hg (by omega)
  replace b2 := hB
  replace H0 := below_only H0 hg (by omega) H0.size
  clear hg hB
  refine bodyPost_ret (ret_rat rfl rfl b2) rfl ?_
  exact ⟨s3, A3, n3, c3, D3, m3, e3, rfl, by rw [← HQ.out]; exact fq, H0⟩
end
end Go.Proofs.YthmmnmajkeoaaabGreatDoor
