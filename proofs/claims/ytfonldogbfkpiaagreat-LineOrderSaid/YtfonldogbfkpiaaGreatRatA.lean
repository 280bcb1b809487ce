/-
  The contracts of package rational: tests of a denominator, integers as rational numbers, lowest terms.
-/
import Derived.Test.YtfonldogbfkpiaaGreatRatB
import Derived.Test.YtfonldogbfkpiaaGreatShl
namespace Go.Proofs.YtfonldogbfkpiaaGreat
open Go.RowKit

section
variable {A0 A1 A2 A3 D0 D1 D2 D3 : Option Addr} {n0 n1 n2 n3 c0 c1 c2 c3 m0 m1 m2 m3 e0 e1 e2 e3 : Nat} {s0 s1 s2 s3 : Bool} {z z0 z1 z2 : Int} {q q0 q1 q2 : Rat} {L L0 L1 L2 x x0 x1 y : Nat} {k : Int} {w : World}
theorem riszero_v {b : Bool} (h : RV w (.slice A0 n0 c0) x L) (hb : decide (x = 0) = b) :
    Calls Tryz.prog 122 #[.slice A0 n0 c0] w fun e w' => e = .returned (.bool b) ∧ Below w.heap.size w w' := by
  have hk : ((bitsN x : Int) == 0) = b := by
    rw [← hb]
    rcases Nat.eq_zero_or_pos x with h0 | h0
    · subst h0; rfl
    · have h1 := bitsN_pos h0
      rw [decide_eq_false (by omega), beq_eq_false_iff_ne]; omega
  have HK := Lib.hid hk
  clear hk hb
  go_enter Tryz.func122, Tryz.ntmps122
  go_wp2_with fail
  refine (bits_v h).mono ?_
  rintro e w1 ⟨rfl, hb⟩
  go_wp2_with fail
  go_returns
  exact ⟨by rw [HK.out]; rfl, hb⟩
theorem risone_v {b : Bool} (h : RV w (.slice A0 n0 c0) x L) (hb : decide (x = 1) = b) :
    Calls Tryz.prog 139 #[.slice A0 n0 c0] w fun e w' => e = .returned (.bool b) ∧ Below w.heap.size w w' := by
  rcases Nat.lt_or_ge x 18446744073709551616 with hx | hx
  · have hk : ((x : Int) == 1) = b := by
      rw [← hb]
      by_cases h1 : x = 1
      · subst h1; rfl
      · rw [decide_eq_false h1, beq_eq_false_iff_ne]; omega
    have HK := Lib.hid hk
    clear hk hb
    go_enter Tryz.func139, Tryz.ntmps139
    go_wp2_with fail
    refine (uint_small h hx).mono ?_
    rintro e w1 ⟨rfl, hb⟩
    go_wp2_with fail
    go_returns
    exact ⟨by rw [HK.out]; rfl, hb⟩
  · have hb0 : b = false := by rw [← hb]; exact decide_eq_false (by omega)
    subst hb0
    go_enter Tryz.func139, Tryz.ntmps139
    go_wp2_with fail
    refine (uint_big h hx).mono ?_
    rintro e w1 ⟨rfl, hb⟩
    go_wp2_with fail
    go_returns
    exact ⟨rfl, hb⟩
theorem NV.one {v : Value} (h : NV w v 1 L) : NV w v 1 1 := ⟨h.1, by rw [Bs_one]; omega⟩
/-- As RQ, with a denominator that is not 0. -/
def RF (w : World) (s : Bool) (v u : Value) (q : Rat) (L : Nat) : Prop := ∃ z d, RI w s v z L ∧ RV w u d L ∧ d ≠ 0 ∧ q = mkRat z d
theorem RF.rq {v u : Value} (h : RF w s0 v u q L) : RQ w s0 v u q L := by obtain ⟨z, d, h1, h2, _, h3⟩ := h; exact ⟨z, d, h1, h2, h3⟩
theorem RF.below {w' : World} {v u : Value} (h : RF w s0 v u q L) (hb : Below w.heap.size w w') : RF w' s0 v u q L := by
  obtain ⟨z, d, h1, h2, h3, h4⟩ := h; exact ⟨z, d, h1.below hb, h2.below hb, h3, h4⟩
theorem RF.kept {w' : World} {v u : Value} {g : Nat} {cs : Array Value} {t : TypeId} (h : RF w s0 v u q L) (hb : Box w g cs t) (hc : cs.all notInt = true) (hg : w.grownBy w' (some g)) : RF w' s0 v u q L := by
  obtain ⟨z, d, h1, h2, h3, h4⟩ := h; exact ⟨z, d, h1.kept hb hc hg, h2.kept hb hc hg, h3, h4⟩
theorem RF.more {v u : Value} (h : RF w s0 v u q L) (hL : L ≤ L0) : RF w s0 v u q L0 := by
  obtain ⟨z, d, h1, h2, h3, h4⟩ := h; exact ⟨z, d, h1.more hL, h2.more hL, h3, h4⟩
theorem NQ.rf {v u : Value} (h : NQ w s0 v u q L) : RF w s0 v u q L := ⟨q.num, q.den, h.1.ri, h.2.rv, q.den_nz, (Rat.mkRat_self q).symm⟩
set_option maxRecDepth 100000 in
theorem rfromint_v (z : Int) (h0 : -9223372036854775808 ≤ z) (h1 : z ≤ 9223372036854775807) (w : World) :
    Calls Tryz.prog 57 #[.int .i64 z] w fun e w' => ∃ s1 A1 n1 c1 D1 m1 e1, e = .returned (.agg #[.bool s1, .slice A1 n1 c1, .slice D1 m1 e1]) ∧ NQ w' s1 (.slice A1 n1 c1) (.slice D1 m1 e1) (z : Rat) 2 ∧ Below w.heap.size w w' := by
  have H1 := Lib.hid (fun W => ifromint_v z h0 h1 W)
  clear h0 h1
  go_enter Tryz.func57, Tryz.ntmps57
  go_wp2_with fail
  obtain ⟨W0, hW, b0, hbW, hszW0⟩ := boxes1 w #[.bool false, .slice none 0 0, .slice none 0 0] 69
  rw [hW]
  clear hW
  have H0 := hbW
  clear hbW
  refine (H1.out _).mono ?_
  rintro e w1 ⟨s1, A1, n1, c1, rfl, fi, hb⟩
  replace b0 := b0.below hb
  replace H0 := H0.trans (hb.mono H0.size)
  clear hb
  go_wp2_with fail
  refine (fromuint_v 1 (by omega) _).mono ?_
  rintro e w2 ⟨A2, n2, c2, rfl, fd, hb⟩
  replace fi := fi.below hb
  replace b0 := b0.below hb
  replace H0 := H0.trans (hb.mono H0.size)
  clear hb
  have cb00 := b0.cell 0 _ rfl
  have yb00 := b0.frozen 0
  have cb01 := b0.cell 1 _ rfl
  have yb01 := b0.frozen 1
  have cb02 := b0.cell 2 _ rfl
  have yb02 := b0.frozen 2
  go_wp2_with fail
  clear cb00 yb00 cb01 yb01 cb02 yb02
  have hg := only_store3 w2 (w.heap.size) (.bool s1) (.slice A1 n1 c1) (.slice A2 n2 c2)
  have hB := b0.stored3 (.bool s1) (.slice A1 n1 c1) (.slice A2 n2 c2)
  generalize hX : (((w2.setCell ⟨w.heap.size, 0, none⟩ (.bool s1)).setCell ⟨w.heap.size, 1, none⟩ (.slice A1 n1 c1)).setCell ⟨w.heap.size, 2, none⟩ (.slice A2 n2 c2)) = X3 at hg hB ⊢
  clear hX
  replace fi := fi.kept b0 (by simp [notInt]) hg
  replace fd := fd.kept b0 (by simp [notInt]) hg
  replace b0 := hB
  replace H0 := below_only H0 hg (by omega) H0.size
  clear hg hB
  refine bodyPost_ret (ret_rat rfl rfl b0) rfl ?_
  exact ⟨s1, A1, n1, c1, A2, n2, c2, rfl, ⟨fi, fd⟩, H0⟩
theorem mk_one (z : Int) : (mkRat z 1).num = z := by rw [mk_num (by omega), Nat.gcd_one_right]; simp
theorem mk_one_den (z : Int) : (mkRat z 1).den = 1 := by rw [mk_den (by omega), Nat.gcd_one_right]
set_option maxRecDepth 100000 in
theorem rlowest_v (h : RI w s0 (.slice A0 n0 c0) z L) (h' : RV w (.slice A1 n1 c1) x L) (hd : x ≠ 0) (hL : L ≤ 1000000) :
    Calls Tryz.prog 123 #[.agg #[.bool s0, .slice A0 n0 c0], .slice A1 n1 c1] w fun e w' => ∃ s1 A1 n1 c1 D1 m1 e1, e = .returned (.agg #[.bool s1, .slice A1 n1 c1, .slice D1 m1 e1]) ∧ NQ w' s1 (.slice A1 n1 c1) (.slice D1 m1 e1) (mkRat z x) L ∧ Below w.heap.size w w' := by
  rcases Decidable.em (x = 1) with h1 | h1
  · subst h1
    clear hd
    go_enter Tryz.func123, Tryz.ntmps123
    go_wp2_with fail
    obtain ⟨W0, hW, b0, b1, hbW, hszW0⟩ := boxes2 w #[.bool s0, .slice A0 n0 c0] #[.bool false, .slice none 0 0, .slice none 0 0] 28 69
    rw [hW]
    clear hW
    replace h := h.below hbW
    replace h' := h'.below hbW
    have H0 := hbW
    clear hbW
    refine (risone_v h' (b := true) (by simp)).mono ?_
    rintro e w1 ⟨rfl, hb⟩
    replace h := h.below hb
    replace h' := h'.below hb
    replace b0 := b0.below hb
    replace b1 := b1.below hb
    replace H0 := H0.trans (hb.mono H0.size)
    clear hb
    have cb00 := b0.cell 0 _ rfl
    have cb01 := b0.cell 1 _ rfl
    go_wp2_with fail
    clear cb00 cb01
    refine (inorm_v h hL).mono ?_
    rintro e w2 ⟨s1, A1, n1, c1, rfl, fi, hb⟩
    replace h := h.below hb
    replace h' := h'.below hb
    replace b0 := b0.below hb
    replace b1 := b1.below hb
    replace H0 := H0.trans (hb.mono H0.size)
    clear hb
    go_wp2_with fail
    refine (norm_v h' hL).mono ?_
    rintro e w3 ⟨D1, m1, e1, rfl, fd, hb⟩
    replace h := h.below hb
    replace h' := h'.below hb
    replace fi := fi.below hb
    replace b0 := b0.below hb
    replace b1 := b1.below hb
    replace H0 := H0.trans (hb.mono H0.size)
    clear hb
    have cb10 := b1.cell 0 _ rfl
    have yb10 := b1.frozen 0
    have cb11 := b1.cell 1 _ rfl
    have yb11 := b1.frozen 1
    have cb12 := b1.cell 2 _ rfl
    have yb12 := b1.frozen 2
    go_wp2_with fail
    clear cb10 yb10 cb11 yb11 cb12 yb12
    have hg := only_store3 w3 (w.heap.size + 1) (.bool s1) (.slice A1 n1 c1) (.slice D1 m1 e1)
    have hB := b1.stored3 (.bool s1) (.slice A1 n1 c1) (.slice D1 m1 e1)
    generalize hX : (((w3.setCell ⟨w.heap.size + 1, 0, none⟩ (.bool s1)).setCell ⟨w.heap.size + 1, 1, none⟩ (.slice A1 n1 c1)).setCell ⟨w.heap.size + 1, 2, none⟩ (.slice D1 m1 e1)) = X4 at hg hB ⊢
    clear hX
    replace h := h.kept b1 (by simp [notInt]) hg
    replace h' := h'.kept b1 (by simp [notInt]) hg
    replace fi := fi.kept b1 (by simp [notInt]) hg
    replace fd := fd.kept b1 (by simp [notInt]) hg
    replace b0 := b0.other hg (by omega)
    replace b1 := hB
    replace H0 := below_only H0 hg (by omega) H0.size
    clear hg hB
    refine bodyPost_ret (ret_rat rfl rfl b1) rfl ?_
    exact ⟨s1, A1, n1, c1, D1, m1, e1, rfl, ⟨by rw [mk_one]; exact fi, by rw [mk_one_den]; exact fd⟩, H0⟩
  · have HN := Lib.hid (decide_eq_false h1)
    have HG := Lib.hid (Nat.gcd_pos_of_pos_right z.natAbs (Nat.pos_of_ne_zero hd))
    have HS := Lib.hid (mk_sg hd h.sg).symm
    have HD := Lib.hid hd
    clear h1 hd
    go_enter Tryz.func123, Tryz.ntmps123
    go_wp2_with fail
    obtain ⟨W0, hW, b0, b1, hbW, hszW0⟩ := boxes2 w #[.bool s0, .slice A0 n0 c0] #[.bool false, .slice none 0 0, .slice none 0 0] 28 69
    rw [hW]
    clear hW
    replace h := h.below hbW
    replace h' := h'.below hbW
    have H0 := hbW
    clear hbW
    refine (risone_v h' (b := false) HN.out).mono ?_
    rintro e w1 ⟨rfl, hb⟩
    replace h := h.below hb
    replace h' := h'.below hb
    replace b0 := b0.below hb
    replace b1 := b1.below hb
    replace H0 := H0.trans (hb.mono H0.size)
    clear hb
    have cb00 := b0.cell 0 _ rfl
    have cb01 := b0.cell 1 _ rfl
    go_wp2_with fail
    clear cb00 cb01
    refine (gcd_v h.rv h' hL hL).mono ?_
    rintro e w2 ⟨A1, n1, c1, rfl, fg, hb⟩
    replace h := h.below hb
    replace h' := h'.below hb
    replace b0 := b0.below hb
    replace b1 := b1.below hb
    replace H0 := H0.trans (hb.mono H0.size)
    clear hb
    have cb00 := b0.cell 0 _ rfl
    have cb01 := b0.cell 1 _ rfl
    go_wp2_with fail
    clear cb00 cb01
    refine (divmod_v h.rv fg.rv HG.out hL).mono ?_
    rintro e w3 ⟨A2, n2, c2, A3, n3, c3, rfl, fa, _, hb⟩
    replace h := h.below hb
    replace h' := h'.below hb
    replace fg := fg.below hb
    replace b0 := b0.below hb
    replace b1 := b1.below hb
    replace H0 := H0.trans (hb.mono H0.size)
    clear hb
    go_wp2_with fail
    refine (divmod_v h' fg.rv HG.out hL).mono ?_
    rintro e w4 ⟨D2, m2, e2, D3, m3, e3, rfl, fd, _, hb⟩
    replace h := h.below hb
    replace h' := h'.below hb
    replace fg := fg.below hb
    replace fa := fa.below hb
    replace b0 := b0.below hb
    replace b1 := b1.below hb
    replace H0 := H0.trans (hb.mono H0.size)
    clear hb
    have cb00 := b0.cell 0 _ rfl
    have cb01 := b0.cell 1 _ rfl
    go_wp2_with fail
    clear cb00 cb01
    refine (inorm_v (s := s0) ⟨_, fa.rv, HS.out⟩ hL).mono ?_
    rintro e w5 ⟨s1, A1', n1', c1', rfl, fi, hb⟩
    replace h := h.below hb
    replace h' := h'.below hb
    replace fg := fg.below hb
    replace fa := fa.below hb
    replace fd := fd.below hb
    replace b0 := b0.below hb
    replace b1 := b1.below hb
    replace H0 := H0.trans (hb.mono H0.size)
    clear hb
    have cb10 := b1.cell 0 _ rfl
    have yb10 := b1.frozen 0
    have cb11 := b1.cell 1 _ rfl
    have yb11 := b1.frozen 1
    have cb12 := b1.cell 2 _ rfl
    have yb12 := b1.frozen 2
    go_wp2_with fail
    clear cb10 yb10 cb11 yb11 cb12 yb12
    have hg := only_store3 w5 (w.heap.size + 1) (.bool s1) (.slice A1' n1' c1') (.slice D2 m2 e2)
    have hB := b1.stored3 (.bool s1) (.slice A1' n1' c1') (.slice D2 m2 e2)
    generalize hX : (((w5.setCell ⟨w.heap.size + 1, 0, none⟩ (.bool s1)).setCell ⟨w.heap.size + 1, 1, none⟩ (.slice A1' n1' c1')).setCell ⟨w.heap.size + 1, 2, none⟩ (.slice D2 m2 e2)) = X6 at hg hB ⊢
    clear hX
    replace h := h.kept b1 (by simp [notInt]) hg
    replace h' := h'.kept b1 (by simp [notInt]) hg
    replace fg := fg.kept b1 (by simp [notInt]) hg
    replace fa := fa.kept b1 (by simp [notInt]) hg
    replace fd := fd.kept b1 (by simp [notInt]) hg
    replace fi := fi.kept b1 (by simp [notInt]) hg
    replace b0 := b0.other hg (by omega)
    replace b1 := hB
    replace H0 := below_only H0 hg (by omega) H0.size
    clear hg hB
    refine bodyPost_ret (ret_rat rfl rfl b1) rfl ?_
    exact ⟨s1, A1', n1', c1', D2, m2, e2, rfl, ⟨fi, by rw [mk_den HD.out]; exact fd⟩, H0⟩
end
end Go.Proofs.YtfonldogbfkpiaaGreat
