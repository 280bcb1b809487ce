/-
  The reference's equality, conversion and normal form of rational numbers; rational.Normal.
-/
import Derived.Test.YthmmnmajkeoaaabGreatDoorOFormI
import Derived.Test.YthmmnmajkeoaaabGreatDoorORatR
namespace Go.Proofs.YthmmnmajkeoaaabGreatDoor
open Go.RowKit

section
variable {A0 A1 A2 A3 D0 D1 D2 D3 : Option Addr} {n0 n1 n2 n3 c0 c1 c2 c3 m0 m1 m2 m3 e0 e1 e2 e3 : Nat} {s0 s1 s2 s3 : Bool} {z z' z0 z1 z2 : Int} {q q' q0 q1 q2 : Rat} {L L0 L1 L2 x x0 x1 y : Nat} {k : Int} {w : World}
theorem PQ.zero (w : World) {L : Nat} : PQ w false (.slice none 0 0) (.slice none 0 0) 0 L := ⟨⟨slice_nil w, rfl⟩, by rw [pden_one rfl]; exact slice_nil w⟩
theorem digs_iff {x y : Nat} : digs x = digs y ↔ x = y := ⟨digs_inj, fun h => by rw [h]⟩
theorem samen_r {ds es : List Nat} (h : Raw w (.slice A0 n0 c0) ds) (h' : Raw w (.slice A1 n1 c1) es) :
    Calls Tryz.prog 90 #[.slice A0 n0 c0, .slice A1 n1 c1] w fun e w' => e = .returned (.bool (decide (ds = es))) ∧ Below w.heap.size w w' := by
  refine (same_any h h').mono ?_
  rintro e w' ⟨rfl, j, rfl⟩
  exact ⟨rfl, below_drewN (Below.refl _ w) j⟩
theorem ton_n (h : NV w (.slice A0 n0 c0) x L) (hL : L ≤ 1000000) :
    Calls Tryz.prog 67 #[.slice A0 n0 c0] w fun e w' => ∃ B k d, e = .returned (.slice B k d) ∧ NV w' (.slice B k d) x L ∧ Below w.heap.size w w' := ton_v h.1 h.2 hL
set_option maxRecDepth 100000 in
set_option maxHeartbeats 800000 in
theorem samei_r {ds es : List Nat} (h : Raw w (.slice A0 n0 c0) ds) (h' : Raw w (.slice A1 n1 c1) es) :
    Calls Tryz.prog 89 #[.agg #[.bool s0, .slice A0 n0 c0], .agg #[.bool s1, .slice A1 n1 c1]] w fun e w' => e = .returned (.bool (decide (s0 = s1) && decide (ds = es))) ∧ Below w.heap.size w w' := by
  cases s0 <;> cases s1
  · skip
    go_enter Tryz.func89, Tryz.ntmps89
    go_wp2_with fail
    obtain ⟨W0, hW, b0, b1, hbW, hszW0⟩ := boxes2 w #[.bool false, .slice A0 n0 c0] #[.bool false, .slice A1 n1 c1] 61 61
    rw [hW]
    clear hW
    replace h := h.below hbW
    replace h' := h'.below hbW
    have H0 := hbW
    clear hbW
    have cb00 := b0.cell 0 _ rfl
    have cb01 := b0.cell 1 _ rfl
    have cb10 := b1.cell 0 _ rfl
    have cb11 := b1.cell 1 _ rfl
    go_wp2_with fail
    clear cb00 cb01 cb10 cb11
    refine (samen_r h h').mono ?_
    rintro e w1 ⟨rfl, hb⟩
    replace h := h.below hb
    replace h' := h'.below hb
    replace b0 := b0.below hb
    replace b1 := b1.below hb
    replace H0 := H0.trans (hb.mono H0.size)
    clear hb
    go_wp2_with fail
    go_returns
    exact ⟨by simp, H0⟩
  · skip
    go_enter Tryz.func89, Tryz.ntmps89
    go_wp2_with fail
    obtain ⟨W0, hW, b0, b1, hbW, hszW0⟩ := boxes2 w #[.bool false, .slice A0 n0 c0] #[.bool true, .slice A1 n1 c1] 61 61
    rw [hW]
    clear hW
    replace h := h.below hbW
    replace h' := h'.below hbW
    have H0 := hbW
    clear hbW
    have cb00 := b0.cell 0 _ rfl
    have cb01 := b0.cell 1 _ rfl
    have cb10 := b1.cell 0 _ rfl
    have cb11 := b1.cell 1 _ rfl
    go_wp2_with fail
    go_returns
    exact ⟨by simp, H0⟩
  · skip
    go_enter Tryz.func89, Tryz.ntmps89
    go_wp2_with fail
    obtain ⟨W0, hW, b0, b1, hbW, hszW0⟩ := boxes2 w #[.bool true, .slice A0 n0 c0] #[.bool false, .slice A1 n1 c1] 61 61
    rw [hW]
    clear hW
    replace h := h.below hbW
    replace h' := h'.below hbW
    have H0 := hbW
    clear hbW
    have cb00 := b0.cell 0 _ rfl
    have cb01 := b0.cell 1 _ rfl
    have cb10 := b1.cell 0 _ rfl
    have cb11 := b1.cell 1 _ rfl
    go_wp2_with fail
    go_returns
    exact ⟨by simp, H0⟩
  · skip
    go_enter Tryz.func89, Tryz.ntmps89
    go_wp2_with fail
    obtain ⟨W0, hW, b0, b1, hbW, hszW0⟩ := boxes2 w #[.bool true, .slice A0 n0 c0] #[.bool true, .slice A1 n1 c1] 61 61
    rw [hW]
    clear hW
    replace h := h.below hbW
    replace h' := h'.below hbW
    have H0 := hbW
    clear hbW
    have cb00 := b0.cell 0 _ rfl
    have cb01 := b0.cell 1 _ rfl
    have cb10 := b1.cell 0 _ rfl
    have cb11 := b1.cell 1 _ rfl
    go_wp2_with fail
    clear cb00 cb01 cb10 cb11
    refine (samen_r h h').mono ?_
    rintro e w1 ⟨rfl, hb⟩
    replace h := h.below hb
    replace h' := h'.below hb
    replace b0 := b0.below hb
    replace b1 := b1.below hb
    replace H0 := H0.trans (hb.mono H0.size)
    clear hb
    go_wp2_with fail
    go_returns
    exact ⟨by simp, H0⟩
set_option maxRecDepth 100000 in
set_option maxHeartbeats 800000 in
theorem sameq_r {ds ds' es es' : List Nat} (h1 : Raw w (.slice A0 n0 c0) ds) (h2 : Raw w (.slice D0 m0 e0) es) (h1' : Raw w (.slice A1 n1 c1) ds') (h2' : Raw w (.slice D1 m1 e1) es') :
    Calls Tryz.prog 58 #[.agg #[.bool s0, .slice A0 n0 c0, .slice D0 m0 e0], .agg #[.bool s1, .slice A1 n1 c1, .slice D1 m1 e1]] w fun e w' => e = .returned (.bool ((decide (s0 = s1) && decide (ds = ds')) && decide (es = es'))) ∧ Below w.heap.size w w' := by
  obtain ⟨b, hb⟩ : ∃ b, (decide (s0 = s1) && decide (ds = ds')) = b := ⟨_, rfl⟩
  rw [hb]
  have HB := Lib.hid hb
  clear hb
  cases b
  · skip
    go_enter Tryz.func58, Tryz.ntmps58
    go_wp2_with fail
    obtain ⟨W0, hW, b0, b1, hbW, hszW0⟩ := boxes2 w #[.bool s0, .slice A0 n0 c0, .slice D0 m0 e0] #[.bool s1, .slice A1 n1 c1, .slice D1 m1 e1] 63 63
    rw [hW]
    clear hW
    replace h1 := h1.below hbW
    replace h2 := h2.below hbW
    replace h1' := h1'.below hbW
    replace h2' := h2'.below hbW
    have H0 := hbW
    clear hbW
    have cb00 := b0.cell 0 _ rfl
    have cb01 := b0.cell 1 _ rfl
    have cb02 := b0.cell 2 _ rfl
    have cb10 := b1.cell 0 _ rfl
    have cb11 := b1.cell 1 _ rfl
    have cb12 := b1.cell 2 _ rfl
    go_wp2_with fail
    clear cb00 cb01 cb02 cb10 cb11 cb12
    refine (samei_r h1 h1').mono ?_
    rintro e w1 ⟨rfl, hb⟩
    replace h1 := h1.below hb
    replace h2 := h2.below hb
    replace h1' := h1'.below hb
    replace h2' := h2'.below hb
    replace b0 := b0.below hb
    replace b1 := b1.below hb
    replace H0 := H0.trans (hb.mono H0.size)
    clear hb
    rw [HB.out]
    have cb00 := b0.cell 0 _ rfl
    have cb01 := b0.cell 1 _ rfl
    have cb02 := b0.cell 2 _ rfl
    have cb10 := b1.cell 0 _ rfl
    have cb11 := b1.cell 1 _ rfl
    have cb12 := b1.cell 2 _ rfl
    go_wp2_with fail
    go_returns
    exact ⟨by simp, H0⟩
  · skip
    go_enter Tryz.func58, Tryz.ntmps58
    go_wp2_with fail
    obtain ⟨W0, hW, b0, b1, hbW, hszW0⟩ := boxes2 w #[.bool s0, .slice A0 n0 c0, .slice D0 m0 e0] #[.bool s1, .slice A1 n1 c1, .slice D1 m1 e1] 63 63
    rw [hW]
    clear hW
    replace h1 := h1.below hbW
    replace h2 := h2.below hbW
    replace h1' := h1'.below hbW
    replace h2' := h2'.below hbW
    have H0 := hbW
    clear hbW
    have cb00 := b0.cell 0 _ rfl
    have cb01 := b0.cell 1 _ rfl
    have cb02 := b0.cell 2 _ rfl
    have cb10 := b1.cell 0 _ rfl
    have cb11 := b1.cell 1 _ rfl
    have cb12 := b1.cell 2 _ rfl
    go_wp2_with fail
    clear cb00 cb01 cb02 cb10 cb11 cb12
    refine (samei_r h1 h1').mono ?_
    rintro e w1 ⟨rfl, hb⟩
    replace h1 := h1.below hb
    replace h2 := h2.below hb
    replace h1' := h1'.below hb
    replace h2' := h2'.below hb
    replace b0 := b0.below hb
    replace b1 := b1.below hb
    replace H0 := H0.trans (hb.mono H0.size)
    clear hb
    rw [HB.out]
    have cb00 := b0.cell 0 _ rfl
    have cb01 := b0.cell 1 _ rfl
    have cb02 := b0.cell 2 _ rfl
    have cb10 := b1.cell 0 _ rfl
    have cb11 := b1.cell 1 _ rfl
    have cb12 := b1.cell 2 _ rfl
    go_wp2_with fail
    clear cb00 cb01 cb02 cb10 cb11 cb12
    refine (samen_r h2 h2').mono ?_
    rintro e w2 ⟨rfl, hb⟩
    replace h1 := h1.below hb
    replace h2 := h2.below hb
    replace h1' := h1'.below hb
    replace h2' := h2'.below hb
    replace b0 := b0.below hb
    replace b1 := b1.below hb
    replace H0 := H0.trans (hb.mono H0.size)
    clear hb
    go_wp2_with fail
    go_returns
    exact ⟨by simp, H0⟩
theorem same_rat (q q' : Rat) : ((decide (decide (q.num < 0) = decide (q'.num < 0)) && decide (digs q.num.natAbs = digs q'.num.natAbs)) && decide (digs q.den = digs q'.den)) = decide (q = q') := by
  simp only [digs_iff]
  by_cases h : q = q'
  · subst h; simp
  · rw [decide_eq_false h]
    by_cases h1 : q.num = q'.num
    · have h2 : q.den ≠ q'.den := fun h2 => h (Rat.ext h1 h2)
      simp [h2]
    · by_cases h3 : q.num.natAbs = q'.num.natAbs
      · have h4 : decide (decide (q.num < 0) = decide (q'.num < 0)) = false := by
          rw [decide_eq_false_iff_not, decide_eq_decide]; omega
        rw [h4]; rfl
      · simp [h3]
theorem sameq_d {b : Bool} (h : NQ w s0 (.slice A0 n0 c0) (.slice D0 m0 e0) q L) (h' : NQ w s1 (.slice A1 n1 c1) (.slice D1 m1 e1) q' L0) (hb : decide (q = q') = b) :
    Calls Tryz.prog 58 #[.agg #[.bool s0, .slice A0 n0 c0, .slice D0 m0 e0], .agg #[.bool s1, .slice A1 n1 c1, .slice D1 m1 e1]] w fun e w' => e = .returned (.bool b) ∧ Below w.heap.size w w' := by
  obtain ⟨⟨a1, a2⟩, a3⟩ := h
  obtain ⟨⟨b1, b2⟩, b3⟩ := h'
  subst a2
  subst b2
  rw [same_rat q q' |>.symm] at hb
  subst hb
  exact sameq_r a1.1 a3.1 b1.1 b3.1
set_option maxRecDepth 100000 in
set_option maxHeartbeats 800000 in
theorem toq_v (h : PQ w s0 (.slice A0 n0 c0) (.slice D0 m0 e0) q L) (hL : L ≤ 100000) :
    Calls Tryz.prog 41 #[.agg #[.bool s0, .slice A0 n0 c0, .slice D0 m0 e0]] w fun e w' => ∃ s1 A1 n1 c1 D1 m1 e1, e = .returned (.agg #[.bool s1, .slice A1 n1 c1, .slice D1 m1 e1]) ∧ NQ w' s1 (.slice A1 n1 c1) (.slice D1 m1 e1) q (max L 1) ∧ Below w.heap.size w w' := by
  have h1 := h.1
  go_enter Tryz.func41, Tryz.ntmps41
  go_wp2_with fail
  obtain ⟨W0, hW, b0, b1, hbW, hszW0⟩ := boxes2 w #[.bool s0, .slice A0 n0 c0, .slice D0 m0 e0] #[.bool false, .slice none 0 0, .slice none 0 0] 49 63
  rw [hW]
  clear hW
  replace h := h.below hbW
  replace h1 := h1.below hbW
  have H0 := hbW
  clear hbW
  have hD := drawn_below W0
  replace h := h.below hD
  replace h1 := h1.below hD
  replace b0 := b0.below hD
  replace b1 := b1.below hD
  replace H0 := H0.trans (hD.mono H0.size)
  clear hD
  have K0 := (And.intro (b0.cell 0 _ rfl) (And.intro (b0.cell 1 _ rfl) (b0.cell 2 _ rfl)))
  go_region_held3 (fun V => V.cell? ⟨w.heap.size, 0, none⟩ = some (.bool s0) ∧ V.cell? ⟨w.heap.size, 1, none⟩ = some (.slice A0 n0 c0) ∧ V.cell? ⟨w.heap.size, 2, none⟩ = some (.slice D0 m0 e0)) (first | exact KS | exact K3 | exact K2 | exact K1 | exact K0 | go_keep)
    (first
      | (go_at_call 67; have hK9 := K2; clear hK9; with_reducible refine (ton_n f2 (by omega)).mono ?_; rintro e v3 ⟨D1, m1, e1, rfl, fd, hb⟩; have fi := fi.below hb; have f2 := f2.below hb; have b0 := b0.below hb; have b1 := b1.below hb; have H0 := H0.trans (hb.mono H0.size); clear f2; have K3 := (And.intro (b0.cell 0 _ rfl) (And.intro (b0.cell 1 _ rfl) (b0.cell 2 _ rfl))); have r0 := b1.cell 0 _ rfl; have f_0 := b1.frozen 0; have r1 := b1.cell 1 _ rfl; have f_1 := b1.frozen 1; have r2 := b1.cell 2 _ rfl; have f_2 := b1.frozen 2; have hg := only_store3 v3 (w.heap.size + 1) (.bool s0) (.slice A1 n1 c1) (.slice D1 m1 e1); have KS := (And.intro ((b0.other hg (by omega)).cell 0 _ rfl) (And.intro ((b0.other hg (by omega)).cell 1 _ rfl) ((b0.other hg (by omega)).cell 2 _ rfl))); clear hb)
      | (go_at_call 62; have hK9 := K1; clear hK9; with_reducible refine (nden_v h).mono ?_; rintro e v2 ⟨A2, n2, c2, rfl, f2, hb⟩; have h := h.below hb; have fi := fi.below hb; have b0 := b0.below hb; have b1 := b1.below hb; have H0 := H0.trans (hb.mono H0.size); clear h; have K2 := (And.intro (b0.cell 0 _ rfl) (And.intro (b0.cell 1 _ rfl) (b0.cell 2 _ rfl))); clear hb)
      | (go_at_call 66; have hK9 := K0; clear hK9; with_reducible refine (toI_v h1 (by omega)).mono ?_; rintro e v1 ⟨A1, n1, c1, rfl, fi, hb⟩; have h := h.below hb; have h1 := h1.below hb; have b0 := b0.below hb; have b1 := b1.below hb; have H0 := H0.trans (hb.mono H0.size); clear h1; have K1 := (And.intro (b0.cell 0 _ rfl) (And.intro (b0.cell 1 _ rfl) (b0.cell 2 _ rfl))); clear hb)
    )
  have hB := b1.stored3 (.bool s0) (.slice A1 n1 c1) (.slice D1 m1 e1)
  go_wp2_with fail
  generalize hX : (((v3.setCell ⟨w.heap.size + 1, 0, none⟩ (.bool s0)).setCell ⟨w.heap.size + 1, 1, none⟩ (.slice A1 n1 c1)).setCell ⟨w.heap.size + 1, 2, none⟩ (.slice D1 m1 e1)) = X4 at hg hB ⊢
  clear hX r0 f_0 r1 f_1 r2 f_2
  replace fi := fi.kept b1 (by simp [notInt]) hg
  replace fd := fd.kept b1 (by simp [notInt]) hg
  replace b0 := b0.other hg (by omega)
  replace b1 := hB
  replace H0 := below_only H0 hg (by omega) H0.size
  clear hg hB
  refine bodyPost_ret (ret_rat rfl rfl b1) rfl ?_
  exact ⟨s0, A1, n1, c1, D1, m1, e1, rfl, ⟨fi.more (by omega), fd.more (by omega)⟩, H0⟩
set_option maxRecDepth 100000 in
set_option maxHeartbeats 800000 in
theorem refq_v (h : RQ w s0 (.slice A0 n0 c0) (.slice D0 m0 e0) q L) (hL : L ≤ 900) :
    Calls Tryz.prog 32 #[.agg #[.bool s0, .slice A0 n0 c0, .slice D0 m0 e0]] w fun e w' => ∃ s1 A1 n1 c1 D1 m1 e1, e = .returned (.agg #[.bool s1, .slice A1 n1 c1, .slice D1 m1 e1]) ∧ PQ w' s1 (.slice A1 n1 c1) (.slice D1 m1 e1) q L ∧ Below w.heap.size w w' := by
  obtain ⟨z, d, h1, h2, rfl⟩ := h
  rcases Decidable.em (d = 0) with h0 | h0
  · subst h0
    rw [Rat.mkRat_zero]
    clear h1
    go_enter Tryz.func32, Tryz.ntmps32
    go_wp2_with fail
    obtain ⟨W0, hW, b0, b1, hbW, hszW0⟩ := boxes2 w #[.bool s0, .slice A0 n0 c0, .slice D0 m0 e0] #[.bool false, .slice none 0 0, .slice none 0 0] 63 49
    rw [hW]
    clear hW
    replace h2 := h2.below hbW
    have H0 := hbW
    clear hbW
    have cb00 := b0.cell 0 _ rfl
    have cb01 := b0.cell 1 _ rfl
    have cb02 := b0.cell 2 _ rfl
    go_wp2_with fail
    clear cb00 cb01 cb02
    refine (n_v h2).mono ?_
    rintro e w1 ⟨D2, m2, e2, rfl, fd, hb⟩
    replace h2 := h2.below hb
    replace b0 := b0.below hb
    replace b1 := b1.below hb
    replace H0 := H0.trans (hb.mono H0.size)
    clear hb
    have hm := nv_zero fd
    subst hm
    clear h2
    clear fd
    have cb10 := b1.cell 0 _ rfl
    have yb10 := b1.frozen 0
    have cb11 := b1.cell 1 _ rfl
    have yb11 := b1.frozen 1
    have cb12 := b1.cell 2 _ rfl
    have yb12 := b1.frozen 2
    go_wp2_with fail
    clear cb10 yb10 cb11 yb11 cb12 yb12
    have hg := only_store3 w1 (w.heap.size + 1) (.bool false) (.slice none 0 0) (.slice none 0 0)
    have hB := b1.stored3 (.bool false) (.slice none 0 0) (.slice none 0 0)
    generalize hX : (((w1.setCell ⟨w.heap.size + 1, 0, none⟩ (.bool false)).setCell ⟨w.heap.size + 1, 1, none⟩ (.slice none 0 0)).setCell ⟨w.heap.size + 1, 2, none⟩ (.slice none 0 0)) = X2 at hg hB ⊢
    clear hX
    replace b0 := b0.other hg (by omega)
    replace b1 := hB
    replace H0 := below_only H0 hg (by omega) H0.size
    clear hg hB
    refine bodyPost_ret (ret_numq rfl rfl b1) rfl ?_
    exact ⟨false, none, 0, 0, none, 0, 0, rfl, PQ.zero _, H0⟩
  · have HP := Lib.hid (Nat.pos_of_ne_zero h0)
    have HN := Lib.hid h0
    clear h0
    go_enter Tryz.func32, Tryz.ntmps32
    go_wp2_with fail
    obtain ⟨W0, hW, b0, b1, hbW, hszW0⟩ := boxes2 w #[.bool s0, .slice A0 n0 c0, .slice D0 m0 e0] #[.bool false, .slice none 0 0, .slice none 0 0] 63 49
    rw [hW]
    clear hW
    replace h1 := h1.below hbW
    replace h2 := h2.below hbW
    have H0 := hbW
    clear hbW
    have cb00 := b0.cell 0 _ rfl
    have cb01 := b0.cell 1 _ rfl
    have cb02 := b0.cell 2 _ rfl
    go_wp2_with fail
    clear cb00 cb01 cb02
    refine (n_v h2).mono ?_
    rintro e w1 ⟨D2, m2, e2, rfl, fd, hb⟩
    replace h1 := h1.below hb
    replace h2 := h2.below hb
    replace b0 := b0.below hb
    replace b1 := b1.below hb
    replace H0 := H0.trans (hb.mono H0.size)
    clear hb
    clear h2
    have hm := nv_pos fd HP.out
    have hm1 : ((m2 : Int) == 0) = false := by rw [beq_eq_false_iff_ne]; omega
    have cb00 := b0.cell 0 _ rfl
    have cb01 := b0.cell 1 _ rfl
    have cb02 := b0.cell 2 _ rfl
    go_wp2_with fail
    clear cb00 cb01 cb02
    refine (refI_v h1).mono ?_
    rintro e w2 ⟨s3, A3, n3, c3, rfl, fi, hb⟩
    replace h1 := h1.below hb
    replace fd := fd.below hb
    replace b0 := b0.below hb
    replace b1 := b1.below hb
    replace H0 := H0.trans (hb.mono H0.size)
    clear hb
    go_wp2_with fail
    clear h1
    refine (nfrac_v fi fd HN.out (by omega)).mono ?_
    rintro e w3 ⟨s4, A4, n4, c4, D4, m4, e4, rfl, fq, hb⟩
    replace fd := fd.below hb
    replace fi := fi.below hb
    replace b0 := b0.below hb
    replace b1 := b1.below hb
    replace H0 := H0.trans (hb.mono H0.size)
    clear hb
    have cb10 := b1.cell 0 _ rfl
    have yb10 := b1.frozen 0
    have cb11 := b1.cell 1 _ rfl
    have yb11 := b1.frozen 1
    have cb12 := b1.cell 2 _ rfl
    have yb12 := b1.frozen 2
    clear fi
    clear fd
    clear cb10 yb10 cb11 yb11 cb12 yb12
    have cb10 := b1.cell 0 _ rfl
    have yb10 := b1.frozen 0
    have cb11 := b1.cell 1 _ rfl
    have yb11 := b1.frozen 1
    have cb12 := b1.cell 2 _ rfl
    have yb12 := b1.frozen 2
    go_wp2_with fail
    clear cb10 yb10 cb11 yb11 cb12 yb12
    have hg := only_store3 w3 (w.heap.size + 1) (.bool s4) (.slice A4 n4 c4) (.slice D4 m4 e4)
    have hB := b1.stored3 (.bool s4) (.slice A4 n4 c4) (.slice D4 m4 e4)
    generalize hX : (((w3.setCell ⟨w.heap.size + 1, 0, none⟩ (.bool s4)).setCell ⟨w.heap.size + 1, 1, none⟩ (.slice A4 n4 c4)).setCell ⟨w.heap.size + 1, 2, none⟩ (.slice D4 m4 e4)) = X4 at hg hB ⊢
    clear hX
    replace fq := fq.kept b1 (by simp [notInt]) hg
    replace b0 := b0.other hg (by omega)
    replace b1 := hB
    replace H0 := below_only H0 hg (by omega) H0.size
    clear hg hB
    refine bodyPost_ret (ret_numq rfl rfl b1) rfl ?_
    exact ⟨s4, A4, n4, c4, D4, m4, e4, rfl, fq, H0⟩
theorem Raw.rv {v : Value} {ds : List Nat} (h : Raw w v ds) : RV w v (val ds) ds.length := ⟨ds, h, rfl, Nat.le_refl _⟩
theorem normal_b {ds : List Nat} (h : Raw w (.slice A0 n0 c0) ds) :
    Calls Tryz.prog 95 #[.slice A0 n0 c0] w fun e w' => e = .returned (.bool (normB ds)) ∧ Below w.heap.size w w' := by
  refine (normal_any h).mono ?_
  rintro e w' ⟨rfl, rfl⟩
  exact ⟨rfl, Below.refl _ w⟩
/-- Whether a rational number of these digits is in normal form. -/
def normQB (s : Bool) (ds es : List Nat) : Bool := normIB s ds && (normB es && (!decide (val es = 0) && decide (Nat.gcd (val ds) (val es) = 1)))
set_option maxRecDepth 100000 in
set_option maxHeartbeats 800000 in
theorem rnormal_r {ds es : List Nat} (h : Raw w (.slice A0 n0 c0) ds) (h' : Raw w (.slice D0 m0 e0) es) (hl : ds.length ≤ 1000000) (hl' : es.length ≤ 1000000) :
    Calls Tryz.prog 69 #[.agg #[.bool s0, .slice A0 n0 c0, .slice D0 m0 e0]] w fun e w' => e = .returned (.bool (normQB s0 ds es)) ∧ Below w.heap.size w w' := by
  unfold normQB
  obtain ⟨b1, hb1⟩ : ∃ b, normIB s0 ds = b := ⟨_, rfl⟩
  obtain ⟨b2, hb2⟩ : ∃ b, normB es = b := ⟨_, rfl⟩
  obtain ⟨b3, hb3⟩ : ∃ b, decide (val es = 0) = b := ⟨_, rfl⟩
  obtain ⟨b4, hb4⟩ : ∃ b, decide (Nat.gcd (val ds) (val es) = 1) = b := ⟨_, rfl⟩
  rw [hb1, hb2, hb3, hb4]
  have HI := Lib.hid hb1
  have HN := Lib.hid hb2
  have HZ := Lib.hid hb3
  have HO := Lib.hid hb4
  clear hb1 hb2 hb3 hb4
  cases b1
  · skip
    go_enter Tryz.func69, Tryz.ntmps69
    go_wp2_with fail
    obtain ⟨W0, hW, b0, hbW, hszW0⟩ := boxes1 w #[.bool s0, .slice A0 n0 c0, .slice D0 m0 e0] 63
    rw [hW]
    clear hW
    replace h := h.below hbW
    replace h' := h'.below hbW
    have H0 := hbW
    clear hbW
    have cb00 := b0.cell 0 _ rfl
    have cb01 := b0.cell 1 _ rfl
    have cb02 := b0.cell 2 _ rfl
    go_wp2_with fail
    clear cb00 cb01 cb02
    refine (inormal_v h).mono ?_
    rintro e w1 ⟨rfl, hb⟩
    replace h := h.below hb
    replace h' := h'.below hb
    replace b0 := b0.below hb
    replace H0 := H0.trans (hb.mono H0.size)
    clear hb
    rw [HI.out]
    have cb00 := b0.cell 0 _ rfl
    have cb01 := b0.cell 1 _ rfl
    have cb02 := b0.cell 2 _ rfl
    go_wp2_with fail
    go_returns
    exact ⟨rfl, H0⟩
  cases b2
  · skip
    go_enter Tryz.func69, Tryz.ntmps69
    go_wp2_with fail
    obtain ⟨W0, hW, b0, hbW, hszW0⟩ := boxes1 w #[.bool s0, .slice A0 n0 c0, .slice D0 m0 e0] 63
    rw [hW]
    clear hW
    replace h := h.below hbW
    replace h' := h'.below hbW
    have H0 := hbW
    clear hbW
    have cb00 := b0.cell 0 _ rfl
    have cb01 := b0.cell 1 _ rfl
    have cb02 := b0.cell 2 _ rfl
    go_wp2_with fail
    clear cb00 cb01 cb02
    refine (inormal_v h).mono ?_
    rintro e w1 ⟨rfl, hb⟩
    replace h := h.below hb
    replace h' := h'.below hb
    replace b0 := b0.below hb
    replace H0 := H0.trans (hb.mono H0.size)
    clear hb
    rw [HI.out]
    have cb00 := b0.cell 0 _ rfl
    have cb01 := b0.cell 1 _ rfl
    have cb02 := b0.cell 2 _ rfl
    go_wp2_with fail
    clear cb00 cb01 cb02
    refine (normal_b h').mono ?_
    rintro e w2 ⟨rfl, hb⟩
    replace h := h.below hb
    replace h' := h'.below hb
    replace b0 := b0.below hb
    replace H0 := H0.trans (hb.mono H0.size)
    clear hb
    rw [HN.out]
    have cb00 := b0.cell 0 _ rfl
    have cb01 := b0.cell 1 _ rfl
    have cb02 := b0.cell 2 _ rfl
    go_wp2_with fail
    go_returns
    exact ⟨rfl, H0⟩
  cases b3
  · skip
    go_enter Tryz.func69, Tryz.ntmps69
    go_wp2_with fail
    obtain ⟨W0, hW, b0, hbW, hszW0⟩ := boxes1 w #[.bool s0, .slice A0 n0 c0, .slice D0 m0 e0] 63
    rw [hW]
    clear hW
    replace h := h.below hbW
    replace h' := h'.below hbW
    have H0 := hbW
    clear hbW
    have cb00 := b0.cell 0 _ rfl
    have cb01 := b0.cell 1 _ rfl
    have cb02 := b0.cell 2 _ rfl
    go_wp2_with fail
    clear cb00 cb01 cb02
    refine (inormal_v h).mono ?_
    rintro e w1 ⟨rfl, hb⟩
    replace h := h.below hb
    replace h' := h'.below hb
    replace b0 := b0.below hb
    replace H0 := H0.trans (hb.mono H0.size)
    clear hb
    rw [HI.out]
    have cb00 := b0.cell 0 _ rfl
    have cb01 := b0.cell 1 _ rfl
    have cb02 := b0.cell 2 _ rfl
    go_wp2_with fail
    clear cb00 cb01 cb02
    refine (normal_b h').mono ?_
    rintro e w2 ⟨rfl, hb⟩
    replace h := h.below hb
    replace h' := h'.below hb
    replace b0 := b0.below hb
    replace H0 := H0.trans (hb.mono H0.size)
    clear hb
    rw [HN.out]
    have cb00 := b0.cell 0 _ rfl
    have cb01 := b0.cell 1 _ rfl
    have cb02 := b0.cell 2 _ rfl
    go_wp2_with fail
    clear cb00 cb01 cb02
    refine (riszero_v h'.rv HZ.out).mono ?_
    rintro e w3 ⟨rfl, hb⟩
    replace h := h.below hb
    replace h' := h'.below hb
    replace b0 := b0.below hb
    replace H0 := H0.trans (hb.mono H0.size)
    clear hb
    have cb00 := b0.cell 0 _ rfl
    have cb01 := b0.cell 1 _ rfl
    have cb02 := b0.cell 2 _ rfl
    go_wp2_with fail
    clear cb00 cb01 cb02
    refine (gcd_v h.rv h'.rv (by omega) (by omega)).mono ?_
    rintro e w4 ⟨A2, n2, c2, rfl, fg, hb⟩
    replace h := h.below hb
    replace h' := h'.below hb
    replace b0 := b0.below hb
    replace H0 := H0.trans (hb.mono H0.size)
    clear hb
    go_wp2_with fail
    refine (risone_v fg.rv HO.out).mono ?_
    rintro e w5 ⟨rfl, hb⟩
    replace h := h.below hb
    replace h' := h'.below hb
    replace fg := fg.below hb
    replace b0 := b0.below hb
    replace H0 := H0.trans (hb.mono H0.size)
    clear hb
    go_wp2_with fail
    go_returns
    exact ⟨rfl, H0⟩
  · skip
    go_enter Tryz.func69, Tryz.ntmps69
    go_wp2_with fail
    obtain ⟨W0, hW, b0, hbW, hszW0⟩ := boxes1 w #[.bool s0, .slice A0 n0 c0, .slice D0 m0 e0] 63
    rw [hW]
    clear hW
    replace h := h.below hbW
    replace h' := h'.below hbW
    have H0 := hbW
    clear hbW
    have cb00 := b0.cell 0 _ rfl
    have cb01 := b0.cell 1 _ rfl
    have cb02 := b0.cell 2 _ rfl
    go_wp2_with fail
    clear cb00 cb01 cb02
    refine (inormal_v h).mono ?_
    rintro e w1 ⟨rfl, hb⟩
    replace h := h.below hb
    replace h' := h'.below hb
    replace b0 := b0.below hb
    replace H0 := H0.trans (hb.mono H0.size)
    clear hb
    rw [HI.out]
    have cb00 := b0.cell 0 _ rfl
    have cb01 := b0.cell 1 _ rfl
    have cb02 := b0.cell 2 _ rfl
    go_wp2_with fail
    clear cb00 cb01 cb02
    refine (normal_b h').mono ?_
    rintro e w2 ⟨rfl, hb⟩
    replace h := h.below hb
    replace h' := h'.below hb
    replace b0 := b0.below hb
    replace H0 := H0.trans (hb.mono H0.size)
    clear hb
    rw [HN.out]
    have cb00 := b0.cell 0 _ rfl
    have cb01 := b0.cell 1 _ rfl
    have cb02 := b0.cell 2 _ rfl
    go_wp2_with fail
    clear cb00 cb01 cb02
    refine (riszero_v h'.rv HZ.out).mono ?_
    rintro e w3 ⟨rfl, hb⟩
    replace h := h.below hb
    replace h' := h'.below hb
    replace b0 := b0.below hb
    replace H0 := H0.trans (hb.mono H0.size)
    clear hb
    have cb00 := b0.cell 0 _ rfl
    have cb01 := b0.cell 1 _ rfl
    have cb02 := b0.cell 2 _ rfl
    go_wp2_with fail
    go_returns
    exact ⟨rfl, H0⟩
theorem normB_iff {ds : List Nat} : normB ds = true ↔ Nrm ds := by
  unfold normB Nrm
  rw [List.getLast?_eq_getElem?, List.getD_eq_getElem?_getD]
  rcases Nat.eq_zero_or_pos ds.length with h | h
  · have h1 : ds = [] := List.eq_nil_of_length_eq_zero h
    subst h1; simp
  · have h1 : (ds.length == 0) = false := by rw [beq_eq_false_iff_ne]; omega
    have h2 : ds[ds.length - 1]? = some (ds[ds.length - 1]'(by omega)) := List.getElem?_eq_getElem _
    rw [h1, h2]; simp
theorem normB_digs (x : Nat) : normB (digs x) = true := normB_iff.2 (nrm_digs x)
theorem NQ.raw1 {v u : Value} (h : NQ w s0 v u q L) : Raw w v (digs q.num.natAbs) := h.1.1.1
theorem NQ.raw2 {v u : Value} (h : NQ w s0 v u q L) : Raw w u (digs q.den) := h.2.1
end
end Go.Proofs.YthmmnmajkeoaaabGreatDoor
