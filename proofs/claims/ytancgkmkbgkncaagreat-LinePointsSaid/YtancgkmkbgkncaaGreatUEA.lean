/-
  What some of the statements need.
-/
import Derived.Test.YtancgkmkbgkncaaGreatUSq
import Derived.Test.YtancgkmkbgkncaaGreatUBox
import Derived.Test.YtancgkmkbgkncaaGreatUDivLong
import Derived.Test.YtancgkmkbgkncaaGreatUFormI
import Derived.Test.YtancgkmkbgkncaaGreatUIGcd
import Derived.Test.YtancgkmkbgkncaaGreatUK1
import Derived.Test.YtancgkmkbgkncaaGreatUK2
import Derived.Test.YtancgkmkbgkncaaGreatUK3
import Derived.Test.YtancgkmkbgkncaaGreatUK4
import Derived.Test.YtancgkmkbgkncaaGreatUK5
import Derived.Test.YtancgkmkbgkncaaGreatUK6
import Derived.Test.YtancgkmkbgkncaaGreatUK7
import Derived.Test.YtancgkmkbgkncaaGreatUK8
import Derived.Test.YtancgkmkbgkncaaGreatUK9
import Derived.Test.YtancgkmkbgkncaaGreatULnA
import Derived.Test.YtancgkmkbgkncaaGreatULnB
import Derived.Test.YtancgkmkbgkncaaGreatULnD
import Derived.Test.YtancgkmkbgkncaaGreatULnM
import Derived.Test.YtancgkmkbgkncaaGreatULnP
import Derived.Test.YtancgkmkbgkncaaGreatULnQ
import Derived.Test.YtancgkmkbgkncaaGreatULnV
import Derived.Test.YtancgkmkbgkncaaGreatULnX
import Derived.Test.YtancgkmkbgkncaaGreatUN1
import Derived.Test.YtancgkmkbgkncaaGreatUOrd
import Derived.Test.YtancgkmkbgkncaaGreatUPhase
import Derived.Test.YtancgkmkbgkncaaGreatUPtA
import Derived.Test.YtancgkmkbgkncaaGreatUPtG
import Derived.Test.YtancgkmkbgkncaaGreatUPtT
import Derived.Test.YtancgkmkbgkncaaGreatUR1
import Derived.Test.YtancgkmkbgkncaaGreatURatA
import Derived.Test.YtancgkmkbgkncaaGreatURatC
import Derived.Test.YtancgkmkbgkncaaGreatURatD
import Derived.Test.YtancgkmkbgkncaaGreatURatR
import Derived.Test.YtancgkmkbgkncaaGreatURatS
import Derived.Test.YtancgkmkbgkncaaGreatURatT
import Derived.Test.YtancgkmkbgkncaaGreatUS1
import Derived.Test.YtancgkmkbgkncaaGreatUShelf
import Derived.Test.YtancgkmkbgkncaaGreatProg
import Derived.Tactics
import Derived.Tactics2
import Derived.WalkKit
import Derived.IntWalk
import Derived.Deep.Draws
import Derived.Deep.QuietTactic
import Derived.BigQuiet
import Derived.Lib.Hide
import Derived.KernelRfl
import Derived.Maps.AppendAt
import Derived.OwnWalk
import Derived.LoopN
import Derived.Deep.Cut
namespace Go.Proofs.YtancgkmkbgkncaaGreat
open List (getElem_toArray getElem_cons_succ getElem_cons_zero setIfInBounds_toArray set_cons_zero set_cons_succ)

end Go.Proofs.YtancgkmkbgkncaaGreat
namespace Go.Proofs.YtancgkmkbgkncaaGreat
open List (getElem_toArray getElem_cons_succ getElem_cons_zero setIfInBounds_toArray set_cons_zero set_cons_succ)
open Go.RowKit

section
variable {w w' : World} {v : Value} {ds : List Nat}
end

section
variable {w w' : World} {g : Nat} {ds : List Nat}
end

end Go.Proofs.YtancgkmkbgkncaaGreat
namespace Go.Proofs.YtancgkmkbgkncaaGreat
open List (getElem_toArray getElem_cons_succ getElem_cons_zero setIfInBounds_toArray set_cons_zero set_cons_succ)
open Go.RowKit

section
variable {w w' : World} {B : Nat} {v : Value} {ds : List Nat}
end

end Go.Proofs.YtancgkmkbgkncaaGreat
namespace Go.Proofs.YtancgkmkbgkncaaGreat
open List (getElem_toArray getElem_cons_succ getElem_cons_zero setIfInBounds_toArray set_cons_zero set_cons_succ)
open Go.RowKit

end Go.Proofs.YtancgkmkbgkncaaGreat
namespace Go.Proofs.YtancgkmkbgkncaaGreat
open List (getElem_toArray getElem_cons_succ getElem_cons_zero setIfInBounds_toArray set_cons_zero set_cons_succ)
open Go.RowKit

set_option maxRecDepth 100000 in
/-- N: the canonical digits, in memory of their own. -/
theorem n_is {A : Option Addr} {n c x : Nat} {ds : List Nat} {w : World} (hx : Raw w (.slice A n c) ds) (hvx : Hid (val ds = x)) :
    Calls Tryz.prog 64 #[.slice A n c] w fun e w' => ∃ B k d, e = .returned (.slice B k d) ∧ Num w' (.slice B k d) x ∧ Below w.heap.size w w' := by
  have hl := Raw.len hx
  go_enter Tryz.func64, Tryz.ntmps64
  go_wp2_with (at_builtin; refine wpList_append_digs rfl _ _ _ _ rfl Tryz.underlying22 Tryz.underlying23 w.heap.size rfl (grow_empty w) rfl (raw_alloc hx _) (by simp) (by simpa using hl) ?_; intro v' w1 hg hgr hb)
  rw [List.nil_append] at hg
  have hb2 := (below_alloc w (.cells #[] 153)).trans hb
  obtain ⟨A1, c1, rfl⟩ := hg.form
  have hr := hg.raw hl
  go_wp2_with fail
  refine (ntrim_is hr hvx).mono ?_
  rintro e w' ⟨rfl, hN, rfl⟩
  go_wp2_with fail
  go_ret
  exact ⟨_, _, _, rfl, hN, hb2⟩

end Go.Proofs.YtancgkmkbgkncaaGreat
namespace Go.Proofs.YtancgkmkbgkncaaGreat
open List (getElem_toArray getElem_cons_succ getElem_cons_zero setIfInBounds_toArray set_cons_zero set_cons_succ)
open Go.RowKit

end Go.Proofs.YtancgkmkbgkncaaGreat
namespace Go.Proofs.YtancgkmkbgkncaaGreat
open List (getElem_toArray getElem_cons_succ getElem_cons_zero setIfInBounds_toArray set_cons_zero set_cons_succ)
open Go.RowKit

end Go.Proofs.YtancgkmkbgkncaaGreat
namespace Go.Proofs.YtancgkmkbgkncaaGreat
open List (getElem_toArray getElem_cons_succ getElem_cons_zero setIfInBounds_toArray set_cons_zero set_cons_succ)
open Go.RowKit

section
variable {A A' : Option Addr} {n n' c c' x y L L' : Nat} {ds : List Nat} {w : World}
theorem n_v (hx : RV w (.slice A n c) x L) :
    Calls Tryz.prog 64 #[.slice A n c] w fun e w' => ∃ B k d, e = .returned (.slice B k d) ∧ NV w' (.slice B k d) x L ∧ Below w.heap.size w w' := by
  have hb := hx.lt
  obtain ⟨ds, h1, h2, h3⟩ := hx
  refine (n_is h1 (Lib.hid h2)).mono ?_
  rintro e w' ⟨B, k, d, rfl, hN, hbl⟩
  exact ⟨B, k, d, rfl, ⟨hN, hb⟩, hbl⟩
end
end Go.Proofs.YtancgkmkbgkncaaGreat
namespace Go.Proofs.YtancgkmkbgkncaaGreat
open List (getElem_toArray getElem_cons_succ getElem_cons_zero setIfInBounds_toArray set_cons_zero set_cons_succ)
open Go.RowKit

section
variable {A A' : Option Addr} {n n' c c' x y L L' : Nat} {s s' : Bool} {z z' : Int} {w : World}
end
end Go.Proofs.YtancgkmkbgkncaaGreat
namespace Go.Proofs.YtancgkmkbgkncaaGreat
open List (getElem_toArray getElem_cons_succ getElem_cons_zero setIfInBounds_toArray set_cons_zero set_cons_succ)
open Go.RowKit

end Go.Proofs.YtancgkmkbgkncaaGreat
namespace Go.Proofs.YtancgkmkbgkncaaGreat
open List (getElem_toArray getElem_cons_succ getElem_cons_zero setIfInBounds_toArray set_cons_zero set_cons_succ)
open Go.RowKit

section
variable {A A' : Option Addr} {n n' c c' L L' : Nat} {s s' : Bool} {z z' k : Int} {w : World}
end
end Go.Proofs.YtancgkmkbgkncaaGreat
namespace Go.Proofs.YtancgkmkbgkncaaGreat
open List (getElem_toArray getElem_cons_succ getElem_cons_zero setIfInBounds_toArray set_cons_zero set_cons_succ)
open Go.RowKit

section
variable {A A' : Option Addr} {n n' c c' x y L L' : Nat} {s s' : Bool} {z z' k : Int} {w : World} {ds : List Nat}
set_option maxRecDepth 100000 in
theorem refI_v (h : RI w s (.slice A n c) z L) :
    Calls Tryz.prog 13 #[.agg #[.bool s, .slice A n c]] w fun e w' => ∃ t B k d, e = .returned (.agg #[.bool t, .slice B k d]) ∧ NI w' t (.slice B k d) z L ∧ Below w.heap.size w w' := by
  have hz := h.sg.symm
  have hr := h.rv
  have HZ := Lib.hid hz
  clear h hz
  go_enter Tryz.func13, Tryz.ntmps13
  go_wp2_with fail
  obtain ⟨W, hW, b0, b1, hbW, hsz⟩ := boxes2 w #[.bool s, .slice A n c] #[.bool false, .slice none 0 0] 25 35
  rw [hW]
  clear hW
  have hr1 := hr.below (hbW.trans ((drawn_below W).mono hbW.size))
  go_region_held3 (fun V => V.cell? ⟨w.heap.size, 0, none⟩ = some (.bool s) ∧ V.cell? ⟨w.heap.size, 1, none⟩ = some (.slice A n c)) (first | exact KC | exact HC | exact (And.intro (b0.cell 0 _ rfl) (b0.cell 1 _ rfl)) | exact ((p0.far (by omega) _ _).all2) | go_keep)
    (first
      | (go_at_call 64; refine (n_v hr1).mono ?_; rintro e w1 ⟨B, k, d, rfl, hN, hb1⟩; have hb1' := below_drawn hb1; have q0 := b0.below hb1'; have q1 := b1.below hb1'; have HC := (And.intro (q0.cell 0 _ rfl) (q0.cell 1 _ rfl)))
      | (go_at_call 63; refine (nmake_v _ hN HZ.out).mono ?_; rintro e w2 ⟨t, rfl, hI, hb2⟩; have p0 := q0.below hb2; have p1 := q1.below hb2; have KC := (And.intro (p0.cell 0 _ rfl) (p0.cell 1 _ rfl)); have r0 := p1.cell 0 _ rfl; have r1 := p1.cell 1 _ rfl; have f0 := p1.frozen 0; have f1 := p1.frozen 1; have hbT := hbW.trans ((hb1'.trans (hb2.mono hb1'.size)).mono hbW.size))
    )
  have hF := hI.stored p1 (notInt_box _ _ _ _) (.bool t) (.slice B k d)
  have hbf := below_stored (g := w.heap.size + 1) hbT (by omega) (.bool t) (.slice B k d)
  have hbx := p1.stored (.bool t) (.slice B k d)
  go_wp2_with fail
  refine bodyPost_ret (ret_intN rfl rfl hbx) rfl ?_
  exact ⟨t, B, k, d, rfl, hF, hbf⟩
end
end Go.Proofs.YtancgkmkbgkncaaGreat
namespace Go.Proofs.YtancgkmkbgkncaaGreat
open List (getElem_toArray getElem_cons_succ getElem_cons_zero setIfInBounds_toArray set_cons_zero set_cons_succ)
open Go.RowKit

section
variable {A0 A1 A2 A3 D0 D1 D2 D3 : Option Addr} {n0 n1 n2 n3 c0 c1 c2 c3 m0 m1 m2 m3 e0 e1 e2 e3 : Nat} {s0 s1 s2 s3 : Bool} {z z0 z1 z2 : Int} {q q0 q1 q2 : Rat} {L L0 L1 L2 x x0 x1 y : Nat} {k : Int} {w : World}
theorem NQ.rf {v u : Value} (h : NQ w s0 v u q L) : RF w s0 v u q L := ⟨q.num, q.den, h.1.ri, h.2.rv, q.den_nz, (Rat.mkRat_self q).symm⟩
set_option maxRecDepth 100000 in
theorem rscale_v (h : RI w s0 (.slice A0 n0 c0) z L) (h' : RV w (.slice A1 n1 c1) x L0) (hL : L ≤ 1000000) (hL' : L0 ≤ 1000000) :
    Calls Tryz.prog 161 #[.agg #[.bool s0, .slice A0 n0 c0], .slice A1 n1 c1] w fun e w' => ∃ s2 A2 n2 c2, e = .returned (.agg #[.bool s2, .slice A2 n2 c2]) ∧ NI w' s2 (.slice A2 n2 c2) (z * (x : Int)) (L + L0) ∧ Below w.heap.size w w' := by
  go_enter Tryz.func161, Tryz.ntmps161
  go_wp2_with fail
  obtain ⟨W0, hW, b0, b1, hbW, hszW0⟩ := boxes2 w #[.bool s0, .slice A0 n0 c0] #[.bool false, .slice none 0 0] 25 25
  rw [hW]
  clear hW
  replace h := h.below hbW
  replace h' := h'.below hbW
  have H0 := hbW
  clear hbW
  obtain ⟨cb00, cb01⟩ := b0.cells2
  go_wp2_with fail
  clear cb00 cb01
  refine (imul_v h ⟨x, h', (sg_false x).symm⟩ hL hL').mono ?_
  rintro e w1 ⟨s2, A2, n2, c2, rfl, fi, hb⟩
  replace h := h.below hb
  replace h' := h'.below hb
  replace b0 := b0.below hb
  replace b1 := b1.below hb
  replace H0 := H0.trans (hb.mono H0.size)
  clear hb
  obtain ⟨cb10, yb10, cb11, yb11⟩ := b1.cf2
  go_wp2_with fail
  clear cb10 yb10 cb11 yb11
  have hg := only_store w1 (w.heap.size + 1) (.bool s2) (.slice A2 n2 c2)
  have hB := b1.stored (.bool s2) (.slice A2 n2 c2)
  generalize hX : ((w1.setCell ⟨w.heap.size + 1, 0, none⟩ (.bool s2)).setCell ⟨w.heap.size + 1, 1, none⟩ (.slice A2 n2 c2)) = X2 at hg hB ⊢
  clear hX
  replace h := h.kept b1 (by simp [notInt]) hg
  replace h' := h'.kept b1 (by simp [notInt]) hg
  replace fi := fi.kept b1 (by simp [notInt]) hg
  replace b0 := b0.other hg (by omega)
  replace b1 := hB
  replace H0 := below_only H0 hg (by omega) H0.size
  clear hg hB
  refine bodyPost_ret (ret_int rfl rfl b1) rfl ?_
  exact ⟨s2, A2, n2, c2, rfl, fi, H0⟩
set_option maxRecDepth 100000 in
theorem rfraction_v (h : RQ w s0 (.slice A0 n0 c0) (.slice D0 m0 e0) q L) :
    Calls Tryz.prog 160 #[.agg #[.bool s0, .slice A0 n0 c0, .slice D0 m0 e0]] w fun e w' => ∃ s1 A1 n1 c1 D1 m1 e1, e = .returned (.agg #[.bool s1, .slice A1 n1 c1, .slice D1 m1 e1]) ∧ RF w' s1 (.slice A1 n1 c1) (.slice D1 m1 e1) q (max L 2) ∧ Below w.heap.size w w' := by
  obtain ⟨z, d, h1, h2, rfl⟩ := h
  rcases Decidable.em (d = 0) with h0 | h0
  · subst h0
    rw [Rat.mkRat_zero]
    go_enter Tryz.func160, Tryz.ntmps160
    go_wp2_with fail
    obtain ⟨W0, hW, b0, b1, hbW, hszW0⟩ := boxes2 w #[.bool s0, .slice A0 n0 c0, .slice D0 m0 e0] #[.bool false, .slice none 0 0, .slice none 0 0] 52 52
    rw [hW]
    clear hW
    replace h1 := h1.below hbW
    replace h2 := h2.below hbW
    have H0 := hbW
    clear hbW
    obtain ⟨cb00, cb01, cb02⟩ := b0.cells3
    go_wp2_with fail
    clear cb00 cb01 cb02
    refine (riszero_v h2 (b := true) (by simp)).mono ?_
    rintro e w1 ⟨rfl, hb⟩
    replace h1 := h1.below hb
    replace h2 := h2.below hb
    replace b0 := b0.below hb
    replace b1 := b1.below hb
    replace H0 := H0.trans (hb.mono H0.size)
    clear hb
    go_wp2_with fail
    refine (rfromint_v 0 (by omega) (by omega) _).mono ?_
    rintro e w2 ⟨s1, A1, n1, c1, D1, m1, e1, rfl, fq, hb⟩
    replace b0 := b0.below hb
    replace b1 := b1.below hb
    replace H0 := H0.trans (hb.mono H0.size)
    clear hb
    obtain ⟨cb10, yb10, cb11, yb11, cb12, yb12⟩ := b1.cf3
    go_wp2_with fail
    clear cb10 yb10 cb11 yb11 cb12 yb12
    have hg := only_store3 w2 (w.heap.size + 1) (.bool s1) (.slice A1 n1 c1) (.slice D1 m1 e1)
    have hB := b1.stored3 (.bool s1) (.slice A1 n1 c1) (.slice D1 m1 e1)
    generalize hX : (((w2.setCell ⟨w.heap.size + 1, 0, none⟩ (.bool s1)).setCell ⟨w.heap.size + 1, 1, none⟩ (.slice A1 n1 c1)).setCell ⟨w.heap.size + 1, 2, none⟩ (.slice D1 m1 e1)) = X3 at hg hB ⊢
    clear hX
    replace fq := fq.kept b1 (by simp [notInt]) hg
    replace b0 := b0.other hg (by omega)
    replace b1 := hB
    replace H0 := below_only H0 hg (by omega) H0.size
    clear hg hB
    refine bodyPost_ret (ret_rat rfl rfl b1) rfl ?_
    exact ⟨s1, A1, n1, c1, D1, m1, e1, rfl, (fq.more (by omega)).rf, H0⟩
  · have HD := Lib.hid (decide_eq_false h0)
    clear h0
    go_enter Tryz.func160, Tryz.ntmps160
    go_wp2_with fail
    obtain ⟨W0, hW, b0, b1, hbW, hszW0⟩ := boxes2 w #[.bool s0, .slice A0 n0 c0, .slice D0 m0 e0] #[.bool false, .slice none 0 0, .slice none 0 0] 52 52
    rw [hW]
    clear hW
    replace h1 := h1.below hbW
    replace h2 := h2.below hbW
    have H0 := hbW
    clear hbW
    obtain ⟨cb00, cb01, cb02⟩ := b0.cells3
    go_wp2_with fail
    clear cb00 cb01 cb02
    refine (riszero_v h2 (b := false) HD.out).mono ?_
    rintro e w1 ⟨rfl, hb⟩
    replace h1 := h1.below hb
    replace h2 := h2.below hb
    replace b0 := b0.below hb
    replace b1 := b1.below hb
    replace H0 := H0.trans (hb.mono H0.size)
    clear hb
    obtain ⟨cb00, cb01, cb02⟩ := b0.cells3
    obtain ⟨cb10, yb10, cb11, yb11, cb12, yb12⟩ := b1.cf3
    clear cb00 cb01 cb02 cb10 yb10 cb11 yb11 cb12 yb12
    obtain ⟨cb00, cb01, cb02⟩ := b0.cells3
    obtain ⟨cb10, yb10, cb11, yb11, cb12, yb12⟩ := b1.cf3
    go_wp2_with fail
    clear cb00 cb01 cb02 cb10 yb10 cb11 yb11 cb12 yb12
    have hg := only_store3 w1 (w.heap.size + 1) (.bool s0) (.slice A0 n0 c0) (.slice D0 m0 e0)
    have hB := b1.stored3 (.bool s0) (.slice A0 n0 c0) (.slice D0 m0 e0)
    generalize hX : (((w1.setCell ⟨w.heap.size + 1, 0, none⟩ (.bool s0)).setCell ⟨w.heap.size + 1, 1, none⟩ (.slice A0 n0 c0)).setCell ⟨w.heap.size + 1, 2, none⟩ (.slice D0 m0 e0)) = X2 at hg hB ⊢
    clear hX
    replace h1 := h1.kept b1 (by simp [notInt]) hg
    replace h2 := h2.kept b1 (by simp [notInt]) hg
    replace b0 := b0.other hg (by omega)
    replace b1 := hB
    replace H0 := below_only H0 hg (by omega) H0.size
    clear hg hB
    refine bodyPost_ret (ret_rat rfl rfl b1) rfl ?_
    exact ⟨s0, A0, n0, c0, D0, m0, e0, rfl, ⟨z, d, h1.more (by omega), h2.more (by omega), of_decide_eq_false HD.out, rfl⟩, H0⟩
end
end Go.Proofs.YtancgkmkbgkncaaGreat
namespace Go.Proofs.YtancgkmkbgkncaaGreat
open List (getElem_toArray getElem_cons_succ getElem_cons_zero setIfInBounds_toArray set_cons_zero set_cons_succ)
open Go.RowKit

section
variable {A0 A1 A2 A3 D0 D1 D2 D3 : Option Addr} {n0 n1 n2 n3 c0 c1 c2 c3 m0 m1 m2 m3 e0 e1 e2 e3 : Nat} {s0 s1 s2 s3 : Bool} {z z0 z1 z2 : Int} {q q' q0 q1 q2 : Rat} {L L0 L1 L2 x x0 x1 y : Nat} {k : Int} {w : World}
set_option maxRecDepth 100000 in
theorem rnorm_v (h : RQ w s0 (.slice A0 n0 c0) (.slice D0 m0 e0) q L) (hL : L ≤ 1000000) :
    Calls Tryz.prog 136 #[.agg #[.bool s0, .slice A0 n0 c0, .slice D0 m0 e0]] w fun e w' => ∃ s1 A1 n1 c1 D1 m1 e1, e = .returned (.agg #[.bool s1, .slice A1 n1 c1, .slice D1 m1 e1]) ∧ NQ w' s1 (.slice A1 n1 c1) (.slice D1 m1 e1) q (max L 2) ∧ Below w.heap.size w w' := by
  go_enter Tryz.func136, Tryz.ntmps136
  go_wp2_with fail
  obtain ⟨W0, hW, b0, b1, hbW, hszW0⟩ := boxes2 w #[.bool s0, .slice A0 n0 c0, .slice D0 m0 e0] #[.bool false, .slice none 0 0, .slice none 0 0] 52 52
  rw [hW]
  clear hW
  replace h := h.below hbW
  have H0 := hbW
  clear hbW
  obtain ⟨cb00, cb01, cb02⟩ := b0.cells3
  go_wp2_with fail
  clear cb00 cb01 cb02
  refine (rfraction_v h).mono ?_
  rintro e w1 ⟨s1, A1, n1, c1, D1, m1, e1, rfl, fr, hb⟩
  replace h := h.below hb
  replace b0 := b0.below hb
  replace b1 := b1.below hb
  replace H0 := H0.trans (hb.mono H0.size)
  clear hb
  clear h
  obtain ⟨cb00, yb00, cb01, yb01, cb02, yb02⟩ := b0.cf3
  go_wp2_with fail
  clear cb00 yb00 cb01 yb01 cb02 yb02
  have hg := only_store3 w1 (w.heap.size) (.bool s1) (.slice A1 n1 c1) (.slice D1 m1 e1)
  have hB := b0.stored3 (.bool s1) (.slice A1 n1 c1) (.slice D1 m1 e1)
  generalize hX : (((w1.setCell ⟨w.heap.size, 0, none⟩ (.bool s1)).setCell ⟨w.heap.size, 1, none⟩ (.slice A1 n1 c1)).setCell ⟨w.heap.size, 2, none⟩ (.slice D1 m1 e1)) = X2 at hg hB ⊢
  clear hX
  replace fr := fr.kept b0 (by simp [notInt]) hg
  replace b1 := b1.other hg (by omega)
  replace b0 := hB
  replace H0 := below_only H0 hg (by omega) H0.size
  clear hg hB
  obtain ⟨z, d, hz, hd, hd0, rfl⟩ := fr
  obtain ⟨cb00, cb01, cb02⟩ := b0.cells3
  go_wp2_with fail
  clear cb00 cb01 cb02
  refine (rlowest_v hz hd hd0 (by omega)).mono ?_
  rintro e w3 ⟨s2, A2, n2, c2, D2, m2, e2, rfl, fq, hb⟩
  replace hz := hz.below hb
  replace hd := hd.below hb
  replace b0 := b0.below hb
  replace b1 := b1.below hb
  replace H0 := H0.trans (hb.mono H0.size)
  clear hb
  obtain ⟨cb10, yb10, cb11, yb11, cb12, yb12⟩ := b1.cf3
  go_wp2_with fail
  clear cb10 yb10 cb11 yb11 cb12 yb12
  have hg := only_store3 w3 (w.heap.size + 1) (.bool s2) (.slice A2 n2 c2) (.slice D2 m2 e2)
  have hB := b1.stored3 (.bool s2) (.slice A2 n2 c2) (.slice D2 m2 e2)
  generalize hX : (((w3.setCell ⟨w.heap.size + 1, 0, none⟩ (.bool s2)).setCell ⟨w.heap.size + 1, 1, none⟩ (.slice A2 n2 c2)).setCell ⟨w.heap.size + 1, 2, none⟩ (.slice D2 m2 e2)) = X4 at hg hB ⊢
  clear hX
  replace hz := hz.kept b1 (by simp [notInt]) hg
  replace hd := hd.kept b1 (by simp [notInt]) hg
  replace fq := fq.kept b1 (by simp [notInt]) hg
  replace b0 := b0.other hg (by omega)
  replace b1 := hB
  replace H0 := below_only H0 hg (by omega) H0.size
  clear hg hB
  refine bodyPost_ret (ret_rat rfl rfl b1) rfl ?_
  exact ⟨s2, A2, n2, c2, D2, m2, e2, rfl, fq, H0⟩
set_option maxRecDepth 100000 in
theorem rsum_v (h : RQ w s0 (.slice A0 n0 c0) (.slice D0 m0 e0) q L) (h' : RQ w s1 (.slice A1 n1 c1) (.slice D1 m1 e1) q' L0) (hL : L ≤ 100000) (hL' : L0 ≤ 100000) :
    Calls Tryz.prog 137 #[.agg #[.bool s0, .slice A0 n0 c0, .slice D0 m0 e0], .agg #[.bool s1, .slice A1 n1 c1, .slice D1 m1 e1]] w fun e w' => ∃ s3 A3 n3 c3 D3 m3 e3, e = .returned (.agg #[.bool s3, .slice A3 n3 c3, .slice D3 m3 e3]) ∧ RF w' s3 (.slice A3 n3 c3) (.slice D3 m3 e3) (q+q') (max L 2 + max L0 2 + 1) ∧ Below w.heap.size w w' := by
  go_enter Tryz.func137, Tryz.ntmps137
  go_wp2_with fail
  obtain ⟨W0, hW, b0, b1, b2, hbW, hszW0⟩ := boxes3 w #[.bool s0, .slice A0 n0 c0, .slice D0 m0 e0] #[.bool s1, .slice A1 n1 c1, .slice D1 m1 e1] #[.bool false, .slice none 0 0, .slice none 0 0] 52 52 52
  rw [hW]
  clear hW
  replace h := h.below hbW
  replace h' := h'.below hbW
  have H0 := hbW
  clear hbW
  have hD := drawn_below W0
  replace h := h.below hD
  replace h' := h'.below hD
  replace b0 := b0.below hD
  replace b1 := b1.below hD
  replace b2 := b2.below hD
  replace H0 := H0.trans (hD.mono H0.size)
  clear hD
  refine wp_region_noPanic ?_
  refine wp_region_F (S := (fun V => V.cell? ⟨w.heap.size + 1, 0, none⟩ = some (.bool s1) ∧ V.cell? ⟨w.heap.size + 1, 1, none⟩ = some (.slice A1 n1 c1) ∧ V.cell? ⟨w.heap.size + 1, 2, none⟩ = some (.slice D1 m1 e1))) (F := (fun j => j == 3 || j == 4 || j == 5)) (by kernel_rfl) ?_
  generalize W0.drew = v1 at h h' b0 b1 b2 H0 ⊢
  refine wpAnyF_take (i := 2) (v := ?_) (fun j => j == 3 || j == 4 || j == 5) rfl (by kernel_rfl) (by kernel_rfl) (by kernel_rfl) (by kernel_rfl) (fun j hj => by have h6 : 6 ≤ j := hj; simp; omega) (fun _ _ _ h => h) (Or.inl ⟨by rfl, ?_⟩) (b1.all3) ?_
  rotate_left
  · (intro w hSw; (try dsimp only at hSw); go_simp; (try with_reducible rfl))
  (try simp only [getElem_toArray, getElem_cons_succ, getElem_cons_zero, Act.put, setIfInBounds_toArray, set_cons_zero, set_cons_succ])
  obtain ⟨cb00, cb01, cb02⟩ := b0.cells3
  refine wpAnyF_one (i := 0) (by kernel_rfl) rfl rfl (fun K hK => ?_)
  go_simp
  refine hK.out _ _ (b1.all3) ?_
  clear hK K
  (try simp only [getElem_toArray, getElem_cons_succ, getElem_cons_zero, Act.put, setIfInBounds_toArray, set_cons_zero, set_cons_succ])
  clear cb00 cb01 cb02
  refine wpAnyF_one (i := 1) (by kernel_rfl) rfl rfl (fun K hK => ?_)
  go_simp
  go_at_call 160
  refine (rfraction_v h).mono ?_
  rintro e v2 ⟨s2, A2, n2, c2, D2, m2, e2, rfl, fr, hb⟩
  replace h := h.below hb
  replace h' := h'.below hb
  replace b0 := b0.below hb
  replace b1 := b1.below hb
  replace b2 := b2.below hb
  replace H0 := H0.trans (hb.mono H0.size)
  clear hb
  clear h
  go_wp2_with fail
  refine hK.out _ _ (b1.all3) ?_
  clear hK K
  (try simp only [getElem_toArray, getElem_cons_succ, getElem_cons_zero, Act.put, setIfInBounds_toArray, set_cons_zero, set_cons_succ])
  refine wpAnyF_last (i := 3) (by kernel_rfl) rfl rfl (fun K hK => ?_)
  go_simp
  go_at_call 160
  refine (rfraction_v h').mono ?_
  rintro e v3 ⟨s3, A3, n3, c3, D3, m3, e3, rfl, fs, hb⟩
  replace h' := h'.below hb
  replace fr := fr.below hb
  replace b0 := b0.below hb
  replace b1 := b1.below hb
  replace b2 := b2.below hb
  replace H0 := H0.trans (hb.mono H0.size)
  clear hb
  clear h'
  go_wp2_with fail
  refine hK.out _ _ ?_
  clear hK K
  (try simp only [getElem_toArray, getElem_cons_succ, getElem_cons_zero, Act.put, setIfInBounds_toArray, set_cons_zero, set_cons_succ])
  obtain ⟨cb00, yb00, cb01, yb01, cb02, yb02⟩ := b0.cf3
  refine wpAny_one (i := 4) (by kernel_rfl) rfl (fun K hK => ?_)
  go_simp
  refine hK.out _ _ ?_
  clear hK K
  (try simp only [getElem_toArray, getElem_cons_succ, getElem_cons_zero, Act.put, setIfInBounds_toArray, set_cons_zero, set_cons_succ])
  clear cb00 yb00 cb01 yb01 cb02 yb02
  have hg := only_store3 v3 (w.heap.size) (.bool s2) (.slice A2 n2 c2) (.slice D2 m2 e2)
  have hB := b0.stored3 (.bool s2) (.slice A2 n2 c2) (.slice D2 m2 e2)
  generalize hX : (((v3.setCell ⟨w.heap.size, 0, none⟩ (.bool s2)).setCell ⟨w.heap.size, 1, none⟩ (.slice A2 n2 c2)).setCell ⟨w.heap.size, 2, none⟩ (.slice D2 m2 e2)) = X4 at hg hB ⊢
  clear hX
  replace fr := fr.kept b0 (by simp [notInt]) hg
  replace fs := fs.kept b0 (by simp [notInt]) hg
  replace b1 := b1.other hg (by omega)
  replace b2 := b2.other hg (by omega)
  replace b0 := hB
  replace H0 := below_only H0 hg (by omega) H0.size
  clear hg hB
  obtain ⟨cb10, yb10, cb11, yb11, cb12, yb12⟩ := b1.cf3
  refine wpAny_one (i := 5) (by kernel_rfl) rfl (fun K hK => ?_)
  go_simp
  refine hK.out _ _ ?_
  clear hK K
  (try simp only [getElem_toArray, getElem_cons_succ, getElem_cons_zero, Act.put, setIfInBounds_toArray, set_cons_zero, set_cons_succ])
  clear cb10 yb10 cb11 yb11 cb12 yb12
  have hg := only_store3 X4 (w.heap.size + 1) (.bool s3) (.slice A3 n3 c3) (.slice D3 m3 e3)
  have hB := b1.stored3 (.bool s3) (.slice A3 n3 c3) (.slice D3 m3 e3)
  generalize hX : (((X4.setCell ⟨w.heap.size + 1, 0, none⟩ (.bool s3)).setCell ⟨w.heap.size + 1, 1, none⟩ (.slice A3 n3 c3)).setCell ⟨w.heap.size + 1, 2, none⟩ (.slice D3 m3 e3)) = X5 at hg hB ⊢
  clear hX
  replace fr := fr.kept b1 (by simp [notInt]) hg
  replace fs := fs.kept b1 (by simp [notInt]) hg
  replace b0 := b0.other hg (by omega)
  replace b2 := b2.other hg (by omega)
  replace b1 := hB
  replace H0 := below_only H0 hg (by omega) H0.size
  clear hg hB
  refine wpAny_done (by kernel_rfl) ?_ _
  refine NoPanic.normal ?_
  obtain ⟨z0, d0, hz0, hd0, hn0, rfl⟩ := fr
  obtain ⟨z1, d1, hz1, hd1, hn1, rfl⟩ := fs
  obtain ⟨cb00, cb01, cb02⟩ := b0.cells3
  obtain ⟨cb10, cb11, cb12⟩ := b1.cells3
  go_wp2_with fail
  clear cb00 cb01 cb02 cb10 cb11 cb12
  have hD := drawn_below X5
  replace hz0 := hz0.below hD
  replace hd0 := hd0.below hD
  replace hz1 := hz1.below hD
  replace hd1 := hd1.below hD
  replace b0 := b0.below hD
  replace b1 := b1.below hD
  replace b2 := b2.below hD
  replace H0 := H0.trans (hD.mono H0.size)
  clear hD
  have K0 := (And.intro (b0.cell 0 _ rfl) (And.intro (b0.cell 1 _ rfl) (And.intro (b0.cell 2 _ rfl) (And.intro (b1.cell 0 _ rfl) (And.intro (b1.cell 1 _ rfl) (b1.cell 2 _ rfl))))))
  go_region_held3 (fun V => V.cell? ⟨w.heap.size, 0, none⟩ = some (.bool s2) ∧ V.cell? ⟨w.heap.size, 1, none⟩ = some (.slice A2 n2 c2) ∧ V.cell? ⟨w.heap.size, 2, none⟩ = some (.slice D2 m2 e2) ∧ V.cell? ⟨w.heap.size + 1, 0, none⟩ = some (.bool s3) ∧ V.cell? ⟨w.heap.size + 1, 1, none⟩ = some (.slice A3 n3 c3) ∧ V.cell? ⟨w.heap.size + 1, 2, none⟩ = some (.slice D3 m3 e3)) (first | exact KS | exact K4 | exact K3 | exact K2 | exact K1 | exact K0 | go_keep)
    (first
      | (go_at_call 161; with_reducible refine (rscale_v hz0 hd1 (by omega) (by omega)).mono ?_; rintro e v6 ⟨s4, A4, n4, c4, rfl, f4, hb⟩; have hz0 := hz0.below hb; have hd0 := hd0.below hb; have hz1 := hz1.below hb; have hd1 := hd1.below hb; have b0 := b0.below hb; have b1 := b1.below hb; have b2 := b2.below hb; have H0 := H0.trans (hb.mono H0.size); have K1 := (And.intro (b0.cell 0 _ rfl) (And.intro (b0.cell 1 _ rfl) (And.intro (b0.cell 2 _ rfl) (And.intro (b1.cell 0 _ rfl) (And.intro (b1.cell 1 _ rfl) (b1.cell 2 _ rfl)))))); clear hb)
      | (go_at_call 161; with_reducible refine (rscale_v hz1 hd0 (by omega) (by omega)).mono ?_; rintro e v7 ⟨s5, A5, n5, c5, rfl, f5, hb⟩; have hz0 := hz0.below hb; have hd0 := hd0.below hb; have hz1 := hz1.below hb; have hd1 := hd1.below hb; have f4 := f4.below hb; have b0 := b0.below hb; have b1 := b1.below hb; have b2 := b2.below hb; have H0 := H0.trans (hb.mono H0.size); have K2 := (And.intro (b0.cell 0 _ rfl) (And.intro (b0.cell 1 _ rfl) (And.intro (b0.cell 2 _ rfl) (And.intro (b1.cell 0 _ rfl) (And.intro (b1.cell 1 _ rfl) (b1.cell 2 _ rfl)))))); clear hb)
      | (go_at_call 128; with_reducible refine (iadd_v f4.ri f5.ri (by omega) (by omega)).mono ?_; rintro e v8 ⟨s6, A6, n6, c6, rfl, f6, hb⟩; have hz0 := hz0.below hb; have hd0 := hd0.below hb; have hz1 := hz1.below hb; have hd1 := hd1.below hb; have f4 := f4.below hb; have f5 := f5.below hb; have b0 := b0.below hb; have b1 := b1.below hb; have b2 := b2.below hb; have H0 := H0.trans (hb.mono H0.size); clear f4; clear f5; have K3 := (And.intro (b0.cell 0 _ rfl) (And.intro (b0.cell 1 _ rfl) (And.intro (b0.cell 2 _ rfl) (And.intro (b1.cell 0 _ rfl) (And.intro (b1.cell 1 _ rfl) (b1.cell 2 _ rfl)))))); clear hb)
      | (go_at_call 133; with_reducible refine (mul_v hd0 hd1 (by omega) (by omega)).mono ?_; rintro e v9 ⟨D6, m6, e6, rfl, f7, hb⟩; have hz0 := hz0.below hb; have hd0 := hd0.below hb; have hz1 := hz1.below hb; have hd1 := hd1.below hb; have f6 := f6.below hb; have b0 := b0.below hb; have b1 := b1.below hb; have b2 := b2.below hb; have H0 := H0.trans (hb.mono H0.size); have K4 := (And.intro (b0.cell 0 _ rfl) (And.intro (b0.cell 1 _ rfl) (And.intro (b0.cell 2 _ rfl) (And.intro (b1.cell 0 _ rfl) (And.intro (b1.cell 1 _ rfl) (b1.cell 2 _ rfl)))))); have r0 := b2.cell 0 _ rfl; have f_0 := b2.frozen 0; have r1 := b2.cell 1 _ rfl; have f_1 := b2.frozen 1; have r2 := b2.cell 2 _ rfl; have f_2 := b2.frozen 2; have hg := only_store3 v9 (w.heap.size + 1 + 1) (.bool s6) (.slice A6 n6 c6) (.slice D6 m6 e6); have KS := (And.intro ((b0.other hg (by omega)).cell 0 _ rfl) (And.intro ((b0.other hg (by omega)).cell 1 _ rfl) (And.intro ((b0.other hg (by omega)).cell 2 _ rfl) (And.intro ((b1.other hg (by omega)).cell 0 _ rfl) (And.intro ((b1.other hg (by omega)).cell 1 _ rfl) ((b1.other hg (by omega)).cell 2 _ rfl)))))); clear hb)
    )
  have hB := b2.stored3 (.bool s6) (.slice A6 n6 c6) (.slice D6 m6 e6)
  go_wp2_with fail
  generalize hX : (((v9.setCell ⟨w.heap.size + 1 + 1, 0, none⟩ (.bool s6)).setCell ⟨w.heap.size + 1 + 1, 1, none⟩ (.slice A6 n6 c6)).setCell ⟨w.heap.size + 1 + 1, 2, none⟩ (.slice D6 m6 e6)) = X10 at hg hB ⊢
  clear hX r0 f_0 r1 f_1 r2 f_2
  replace hz0 := hz0.kept b2 (by simp [notInt]) hg
  replace hd0 := hd0.kept b2 (by simp [notInt]) hg
  replace hz1 := hz1.kept b2 (by simp [notInt]) hg
  replace hd1 := hd1.kept b2 (by simp [notInt]) hg
  replace f6 := f6.kept b2 (by simp [notInt]) hg
  replace f7 := f7.kept b2 (by simp [notInt]) hg
  replace b0 := b0.other hg (by omega)
  replace b1 := b1.other hg (by omega)
  replace b2 := hB
  replace H0 := below_only H0 hg (by omega) H0.size
  clear hg hB
  refine bodyPost_ret (ret_rat rfl rfl b2) rfl ?_
  exact ⟨s6, A6, n6, c6, D6, m6, e6, rfl, ⟨_, _, f6.ri.more (by omega), f7.rv.more (by omega), Nat.mul_ne_zero hn0 hn1, Rat.mkRat_add_mkRat _ _ hn0 hn1⟩, H0⟩
set_option maxRecDepth 100000 in
theorem radd_v (h : RQ w s0 (.slice A0 n0 c0) (.slice D0 m0 e0) q L) (h' : RQ w s1 (.slice A1 n1 c1) (.slice D1 m1 e1) q' L0) (hL : L ≤ 100000) (hL' : L0 ≤ 100000) :
    Calls Tryz.prog 107 #[.agg #[.bool s0, .slice A0 n0 c0, .slice D0 m0 e0], .agg #[.bool s1, .slice A1 n1 c1, .slice D1 m1 e1]] w fun e w' => ∃ s3 A3 n3 c3 D3 m3 e3, e = .returned (.agg #[.bool s3, .slice A3 n3 c3, .slice D3 m3 e3]) ∧ NQ w' s3 (.slice A3 n3 c3) (.slice D3 m3 e3) (q+q') (max L 2 + max L0 2 + 1) ∧ Below w.heap.size w w' := by
  go_enter Tryz.func107, Tryz.ntmps107
  go_wp2_with fail
  obtain ⟨W0, hW, b0, b1, b2, hbW, hszW0⟩ := boxes3 w #[.bool s0, .slice A0 n0 c0, .slice D0 m0 e0] #[.bool s1, .slice A1 n1 c1, .slice D1 m1 e1] #[.bool false, .slice none 0 0, .slice none 0 0] 52 52 52
  rw [hW]
  clear hW
  replace h := h.below hbW
  replace h' := h'.below hbW
  have H0 := hbW
  clear hbW
  obtain ⟨cb00, cb01, cb02⟩ := b0.cells3
  obtain ⟨cb10, cb11, cb12⟩ := b1.cells3
  go_wp2_with fail
  clear cb00 cb01 cb02 cb10 cb11 cb12
  refine (rsum_v h h' hL hL').mono ?_
  rintro e w1 ⟨s4, A4, n4, c4, D4, m4, e4, rfl, fr, hb⟩
  replace h := h.below hb
  replace h' := h'.below hb
  replace b0 := b0.below hb
  replace b1 := b1.below hb
  replace b2 := b2.below hb
  replace H0 := H0.trans (hb.mono H0.size)
  clear hb
  go_wp2_with fail
  refine (rnorm_v fr.rq (by omega)).mono ?_
  rintro e w2 ⟨s3, A3, n3, c3, D3, m3, e3, rfl, fq, hb⟩
  replace h := h.below hb
  replace h' := h'.below hb
  replace fr := fr.below hb
  replace b0 := b0.below hb
  replace b1 := b1.below hb
  replace b2 := b2.below hb
  replace H0 := H0.trans (hb.mono H0.size)
  clear hb
  obtain ⟨cb20, yb20, cb21, yb21, cb22, yb22⟩ := b2.cf3
  go_wp2_with fail
  clear cb20 yb20 cb21 yb21 cb22 yb22
  have hg := only_store3 w2 (w.heap.size + 1 + 1) (.bool s3) (.slice A3 n3 c3) (.slice D3 m3 e3)
  have hB := b2.stored3 (.bool s3) (.slice A3 n3 c3) (.slice D3 m3 e3)
  generalize hX : (((w2.setCell ⟨w.heap.size + 1 + 1, 0, none⟩ (.bool s3)).setCell ⟨w.heap.size + 1 + 1, 1, none⟩ (.slice A3 n3 c3)).setCell ⟨w.heap.size + 1 + 1, 2, none⟩ (.slice D3 m3 e3)) = X3 at hg hB ⊢
  clear hX
  replace h := h.kept b2 (by simp [notInt]) hg
  replace h' := h'.kept b2 (by simp [notInt]) hg
  replace fr := fr.kept b2 (by simp [notInt]) hg
  replace fq := fq.kept b2 (by simp [notInt]) hg
  replace b0 := b0.other hg (by omega)
  replace b1 := b1.other hg (by omega)
  replace b2 := hB
  replace H0 := below_only H0 hg (by omega) H0.size
  clear hg hB
  refine bodyPost_ret (ret_rat rfl rfl b2) rfl ?_
  exact ⟨s3, A3, n3, c3, D3, m3, e3, rfl, fq.more (by omega), H0⟩
end
end Go.Proofs.YtancgkmkbgkncaaGreat
namespace Go.Proofs.YtancgkmkbgkncaaGreat
open List (getElem_toArray getElem_cons_succ getElem_cons_zero setIfInBounds_toArray set_cons_zero set_cons_succ)
open Go.RowKit

section
variable {A0 A1 A2 A3 A4 A5 A6 A7 A8 A9 A10 A11 A12 A13 A14 A15 A16 A17 A20 A21 D0 D1 D2 D3 D4 D5 D6 D7 D13 D15 D16 D17 D20 D21 : Option Addr} {n0 n1 n2 n3 n4 n5 n6 n7 n8 n9 n10 n11 n12 n13 n14 n15 n16 n17 n20 n21 c0 c1 c2 c3 c4 c5 c6 c7 c8 c9 c10 c11 c12 c13 c14 c15 c16 c17 c20 c21 m0 m1 m2 m3 m4 m5 m6 m7 m13 m15 m16 m17 m20 m21 e0 e1 e2 e3 e4 e5 e6 e7 e13 e15 e16 e17 e20 e21 : Nat} {s0 s1 s2 s3 s4 s5 s6 s7 s8 s9 s10 s11 s12 s13 s14 s15 s16 s17 s20 s21 : Bool} {q0 q1 q2 q3 q4 q5 q6 q7 : Rat} {z0 z1 z2 z3 z4 z5 z6 z7 z8 z9 z10 z11 : Int} {L L0 L1 x y : Nat} {k : Int} {b : Bool} {w : World}
set_option maxRecDepth 100000 in
set_option maxHeartbeats 4000000 in
theorem cdot_v (h0 : RI w s0 (.slice A0 n0 c0) z0 L) (h1 : RI w s1 (.slice A1 n1 c1) z1 L) (h2 : RI w s2 (.slice A2 n2 c2) z2 L) (h3 : RI w s3 (.slice A3 n3 c3) z3 L) (h4 : RI w s4 (.slice A4 n4 c4) z4 L) (h5 : RI w s5 (.slice A5 n5 c5) z5 L) (hL : L ≤ 100000) :
    Calls Tryz.prog 96 #[.agg #[.bool s0, .slice A0 n0 c0, .bool s1, .slice A1 n1 c1, .bool s2, .slice A2 n2 c2], .agg #[.bool s3, .slice A3 n3 c3, .bool s4, .slice A4 n4 c4, .bool s5, .slice A5 n5 c5]] w fun e w' => ∃ s10 A10 n10 c10, e = .returned (.agg #[.bool s10, .slice A10 n10 c10]) ∧ NI w' s10 (.slice A10 n10 c10) (z0 * z3 + z1 * z4 + z2 * z5) (2 * L + 2) ∧ Below w.heap.size w w' := by
  go_enter Tryz.func96, Tryz.ntmps96
  go_wp2_with fail
  obtain ⟨W0, hW, b0, b1, b9, hbW, hszW0⟩ := boxes3 w #[.bool s0, .slice A0 n0 c0, .bool s1, .slice A1 n1 c1, .bool s2, .slice A2 n2 c2] #[.bool s3, .slice A3 n3 c3, .bool s4, .slice A4 n4 c4, .bool s5, .slice A5 n5 c5] #[.bool false, .slice none 0 0] 95 95 25
  rw [hW]
  clear hW
  replace h0 := h0.below hbW
  replace h1 := h1.below hbW
  replace h2 := h2.below hbW
  replace h3 := h3.below hbW
  replace h4 := h4.below hbW
  replace h5 := h5.below hbW
  have H0 := hbW
  clear hbW
  obtain ⟨cb00, cb01, cb02, cb03, cb04, cb05⟩ := b0.cells6
  obtain ⟨cb10, cb11, cb12, cb13, cb14, cb15⟩ := b1.cells6
  go_wp2_with fail
  clear cb00 cb01 cb02 cb03 cb04 cb05 cb10 cb11 cb12 cb13 cb14 cb15
  refine (imul_v h0 h3 (by omega) (by omega)).mono ?_
  rintro e w1 ⟨s6, A6, n6, c6, rfl, g6, hb⟩
  replace h0 := h0.below hb
  replace h1 := h1.below hb
  replace h2 := h2.below hb
  replace h3 := h3.below hb
  replace h4 := h4.below hb
  replace h5 := h5.below hb
  replace b0 := b0.below hb
  replace b1 := b1.below hb
  replace b9 := b9.below hb
  replace H0 := H0.trans (hb.mono H0.size)
  clear hb
  have lb0_2 := b0.lt
  have lb1_2 := b1.lt
  have lb9_2 := b9.lt
  obtain ⟨W2, hW, b5, hbW, hszW2⟩ := boxes1 w1 #[.bool s6, .slice A6 n6 c6] 25
  skip
  skip
  replace h0 := h0.below hbW
  replace h1 := h1.below hbW
  replace h2 := h2.below hbW
  replace h3 := h3.below hbW
  replace h4 := h4.below hbW
  replace h5 := h5.below hbW
  replace g6 := g6.below hbW
  replace b0 := b0.below hbW
  replace b1 := b1.below hbW
  replace b9 := b9.below hbW
  replace H0 := H0.trans (hbW.mono H0.size)
  clear hbW
  obtain ⟨cb00, cb01, cb02, cb03, cb04, cb05⟩ := b0.cells6
  obtain ⟨cb10, cb11, cb12, cb13, cb14, cb15⟩ := b1.cells6
  obtain ⟨cb50, cb51⟩ := b5.cells2
  go_wp2_with fail
  clear hW
  clear cb00 cb01 cb02 cb03 cb04 cb05 cb10 cb11 cb12 cb13 cb14 cb15 cb50 cb51
  refine wp_loop_rounds 3 ?_
  rw [rounds_succ]
  obtain ⟨cb00, cb01, cb02, cb03, cb04, cb05⟩ := b0.cells6
  obtain ⟨cb10, cb11, cb12, cb13, cb14, cb15⟩ := b1.cells6
  obtain ⟨cb50, cb51⟩ := b5.cells2
  go_wp2_with fail
  clear cb00 cb01 cb02 cb03 cb04 cb05 cb10 cb11 cb12 cb13 cb14 cb15 cb50 cb51
  have hD := drawn_below W2
  replace h0 := h0.below hD
  replace h1 := h1.below hD
  replace h2 := h2.below hD
  replace h3 := h3.below hD
  replace h4 := h4.below hD
  replace h5 := h5.below hD
  replace g6 := g6.below hD
  replace b0 := b0.below hD
  replace b1 := b1.below hD
  replace b9 := b9.below hD
  replace b5 := b5.below hD
  replace H0 := H0.trans (hD.mono H0.size)
  clear hD
  refine wp_region_noPanic ?_
  refine wp_region_F (S := (fun V => V.cell? ⟨w.heap.size, 0, none⟩ = some (.bool s0) ∧ V.cell? ⟨w.heap.size, 1, none⟩ = some (.slice A0 n0 c0) ∧ V.cell? ⟨w.heap.size, 2, none⟩ = some (.bool s1) ∧ V.cell? ⟨w.heap.size, 3, none⟩ = some (.slice A1 n1 c1) ∧ V.cell? ⟨w.heap.size, 4, none⟩ = some (.bool s2) ∧ V.cell? ⟨w.heap.size, 5, none⟩ = some (.slice A2 n2 c2) ∧ V.cell? ⟨w.heap.size + 1, 0, none⟩ = some (.bool s3) ∧ V.cell? ⟨w.heap.size + 1, 1, none⟩ = some (.slice A3 n3 c3) ∧ V.cell? ⟨w.heap.size + 1, 2, none⟩ = some (.bool s4) ∧ V.cell? ⟨w.heap.size + 1, 3, none⟩ = some (.slice A4 n4 c4) ∧ V.cell? ⟨w.heap.size + 1, 4, none⟩ = some (.bool s5) ∧ V.cell? ⟨w.heap.size + 1, 5, none⟩ = some (.slice A5 n5 c5) ∧ V.cell? ⟨w1.heap.size, 0, none⟩ = some (.bool s6) ∧ V.cell? ⟨w1.heap.size, 1, none⟩ = some (.slice A6 n6 c6))) (F := (fun j => j == 9)) (by kernel_rfl) ?_
  generalize W2.drew = v3 at H0 h0 h1 h2 h3 h4 h5 g6 b0 b1 b9 b5 ⊢
  refine wpAnyF_take (i := 0) (v := ?_) (fun j => j == 8 || j == 9) rfl (by kernel_rfl) (by kernel_rfl) (by kernel_rfl) (by kernel_rfl) (fun j hj => by have h6 : 10 ≤ j := hj; simp; omega) (fun _ _ _ h => h) (Or.inl ⟨by rfl, ?_⟩) (b0.and6 (b1.and6 (b5.all2))) ?_
  rotate_left
  · (intro w hSw; (try dsimp only at hSw); go_simp; (try with_reducible rfl))
  (try simp only [getElem_toArray, getElem_cons_zero, Act.put, setIfInBounds_toArray, set_cons_zero, set_cons_succ])
  refine wpAnyF_take (i := 1) (v := ?_) (fun j => j == 2 || j == 3 || j == 7 || j == 8 || j == 9) rfl (by kernel_rfl) (by kernel_rfl) (by kernel_rfl) (by kernel_rfl) (fun j hj => by have h6 : 10 ≤ j := hj; simp; omega) (fun _ _ _ h => h) (Or.inl ⟨by rfl, ?_⟩) (b0.and6 (b1.and6 (b5.all2))) ?_
  rotate_left
  · (intro w hSw; (try dsimp only at hSw); go_simp; (try with_reducible rfl))
  (try simp only [getElem_toArray, getElem_cons_succ, getElem_cons_zero, Act.put, setIfInBounds_toArray, set_cons_zero, set_cons_succ])
  refine wpAnyF_take (i := 4) (v := ?_) (fun j => j == 5 || j == 6 || j == 7 || j == 8 || j == 9) rfl (by kernel_rfl) (by kernel_rfl) (by kernel_rfl) (by kernel_rfl) (fun j hj => by have h6 : 10 ≤ j := hj; simp; omega) (fun _ _ _ h => h) (Or.inl ⟨by rfl, ?_⟩) (b0.and6 (b1.and6 (b5.all2))) ?_
  rotate_left
  · (intro w hSw; (try dsimp only at hSw); go_simp; (try with_reducible rfl))
  (try simp only [getElem_toArray, getElem_cons_succ, getElem_cons_zero, Act.put, setIfInBounds_toArray, set_cons_zero, set_cons_succ])
  refine wpAnyF_take (i := 2) (v := ?_) (fun j => j == 3 || j == 7 || j == 8 || j == 9) rfl (by kernel_rfl) (by kernel_rfl) (by kernel_rfl) (by kernel_rfl) (fun j hj => by have h6 : 10 ≤ j := hj; simp; omega) (fun _ _ _ h => h) (Or.inl ⟨by rfl, ?_⟩) (b0.and6 (b1.and6 (b5.all2))) ?_
  rotate_left
  · (intro w hSw; (try dsimp only at hSw); go_simp; (try with_reducible rfl))
  (try simp only [getElem_toArray, getElem_cons_succ, getElem_cons_zero, Act.put, setIfInBounds_toArray, set_cons_zero, set_cons_succ])
  refine wpAnyF_take (i := 5) (v := ?_) (fun j => j == 6 || j == 7 || j == 8 || j == 9) rfl (by kernel_rfl) (by kernel_rfl) (by kernel_rfl) (by kernel_rfl) (fun j hj => by have h6 : 10 ≤ j := hj; simp; omega) (fun _ _ _ h => h) (Or.inl ⟨by rfl, ?_⟩) (b0.and6 (b1.and6 (b5.all2))) ?_
  rotate_left
  · (intro w hSw; (try dsimp only at hSw); go_simp; (try with_reducible rfl))
  (try simp only [getElem_toArray, getElem_cons_succ, getElem_cons_zero, Act.put, setIfInBounds_toArray, set_cons_zero, set_cons_succ])
  refine wpAnyF_take (i := 3) (v := ?_) (fun j => j == 7 || j == 8 || j == 9) rfl (by kernel_rfl) (by kernel_rfl) (by kernel_rfl) (by kernel_rfl) (fun j hj => by have h6 : 10 ≤ j := hj; simp; omega) (fun _ _ _ h => h) (Or.inl ⟨by rfl, ?_⟩) (b0.and6 (b1.and6 (b5.all2))) ?_
  rotate_left
  · (intro w hSw; (try dsimp only at hSw); go_simp; (try with_reducible rfl))
  (try simp only [getElem_toArray, getElem_cons_succ, getElem_cons_zero, Act.put, setIfInBounds_toArray, set_cons_zero, set_cons_succ])
  refine wpAnyF_take (i := 6) (v := ?_) (fun j => j == 7 || j == 8 || j == 9) rfl (by kernel_rfl) (by kernel_rfl) (by kernel_rfl) (by kernel_rfl) (fun j hj => by have h6 : 10 ≤ j := hj; simp; omega) (fun _ _ _ h => h) (Or.inl ⟨by rfl, ?_⟩) (b0.and6 (b1.and6 (b5.all2))) ?_
  rotate_left
  · (intro w hSw; (try dsimp only at hSw); go_simp; (try with_reducible rfl))
  (try simp only [getElem_toArray, getElem_cons_succ, getElem_cons_zero, Act.put, setIfInBounds_toArray, set_cons_zero, set_cons_succ])
  refine wpAnyF_one (i := 7) (by kernel_rfl) rfl rfl (fun K hK => ?_)
  go_simp
  go_at_call 95
  refine (imul_v h1 h4 (by omega) (by omega)).mono ?_
  rintro e w4 ⟨s7, A7, n7, c7, rfl, g7, hb⟩
  replace h0 := h0.below hb
  replace h1 := h1.below hb
  replace h2 := h2.below hb
  replace h3 := h3.below hb
  replace h4 := h4.below hb
  replace h5 := h5.below hb
  replace g6 := g6.below hb
  replace b0 := b0.below hb
  replace b1 := b1.below hb
  replace b9 := b9.below hb
  replace b5 := b5.below hb
  replace H0 := H0.trans (hb.mono H0.size)
  clear hb
  go_wp2_with fail
  refine hK.out _ _ (b0.and6 (b1.and6 (b5.all2))) ?_
  clear hK K
  (try simp only [getElem_toArray, getElem_cons_succ, getElem_cons_zero, Act.put, setIfInBounds_toArray, set_cons_zero, set_cons_succ])
  refine wpAnyF_one (i := 8) (by kernel_rfl) rfl rfl (fun K hK => ?_)
  go_simp
  go_at_call 128
  refine (iadd_v g6.ri g7.ri (by omega) (by omega)).mono ?_
  rintro e w5 ⟨s8, A8, n8, c8, rfl, g8, hb⟩
  replace h0 := h0.below hb
  replace h1 := h1.below hb
  replace h2 := h2.below hb
  replace h3 := h3.below hb
  replace h4 := h4.below hb
  replace h5 := h5.below hb
  replace g6 := g6.below hb
  replace g7 := g7.below hb
  replace b0 := b0.below hb
  replace b1 := b1.below hb
  replace b9 := b9.below hb
  replace b5 := b5.below hb
  replace H0 := H0.trans (hb.mono H0.size)
  clear hb
  clear g6
  clear g7
  go_wp2_with fail
  refine hK.out _ _ (b0.and6 (b1.and6 (b5.all2))) ?_
  clear hK K
  (try simp only [getElem_toArray, getElem_cons_succ, getElem_cons_zero, Act.put, setIfInBounds_toArray, set_cons_zero, set_cons_succ])
  obtain ⟨cb50, yb50, cb51, yb51⟩ := b5.cf2
  refine wpAnyF_last (i := 9) (by kernel_rfl) rfl rfl (fun K hK => ?_)
  go_simp
  refine hK.out _ _ ?_
  clear hK K
  (try simp only [getElem_toArray, getElem_cons_succ, getElem_cons_zero, Act.put, setIfInBounds_toArray, set_cons_zero, set_cons_succ])
  clear cb50 yb50 cb51 yb51
  have hg := only_store w5 (w1.heap.size) (.bool s8) (.slice A8 n8 c8)
  have hB := b5.stored (.bool s8) (.slice A8 n8 c8)
  generalize hX : ((w5.setCell ⟨w1.heap.size, 0, none⟩ (.bool s8)).setCell ⟨w1.heap.size, 1, none⟩ (.slice A8 n8 c8)) = X6 at hg hB ⊢
  clear hX
  replace h0 := h0.kept b5 (by simp [notInt]) hg
  replace h1 := h1.kept b5 (by simp [notInt]) hg
  replace h2 := h2.kept b5 (by simp [notInt]) hg
  replace h3 := h3.kept b5 (by simp [notInt]) hg
  replace h4 := h4.kept b5 (by simp [notInt]) hg
  replace h5 := h5.kept b5 (by simp [notInt]) hg
  replace g8 := g8.kept b5 (by simp [notInt]) hg
  replace b0 := b0.other hg (by omega)
  replace b1 := b1.other hg (by omega)
  replace b9 := b9.other hg (by omega)
  replace b5 := hB
  replace H0 := below_only H0 hg (by omega) H0.size
  clear hg hB
  refine wpAny_done (by kernel_rfl) ?_ _
  refine NoPanic.normal ?_
  go_wp2_with fail
  rw [rounds_succ]
  obtain ⟨cb00, cb01, cb02, cb03, cb04, cb05⟩ := b0.cells6
  obtain ⟨cb10, cb11, cb12, cb13, cb14, cb15⟩ := b1.cells6
  obtain ⟨cb50, cb51⟩ := b5.cells2
  go_wp2_with fail
  clear cb00 cb01 cb02 cb03 cb04 cb05 cb10 cb11 cb12 cb13 cb14 cb15 cb50 cb51
  have hD := drawn_below X6
  replace h0 := h0.below hD
  replace h1 := h1.below hD
  replace h2 := h2.below hD
  replace h3 := h3.below hD
  replace h4 := h4.below hD
  replace h5 := h5.below hD
  replace g8 := g8.below hD
  replace b0 := b0.below hD
  replace b1 := b1.below hD
  replace b9 := b9.below hD
  replace b5 := b5.below hD
  replace H0 := H0.trans (hD.mono H0.size)
  clear hD
  refine wp_region_noPanic ?_
  refine wp_region_F (S := (fun V => V.cell? ⟨w.heap.size, 0, none⟩ = some (.bool s0) ∧ V.cell? ⟨w.heap.size, 1, none⟩ = some (.slice A0 n0 c0) ∧ V.cell? ⟨w.heap.size, 2, none⟩ = some (.bool s1) ∧ V.cell? ⟨w.heap.size, 3, none⟩ = some (.slice A1 n1 c1) ∧ V.cell? ⟨w.heap.size, 4, none⟩ = some (.bool s2) ∧ V.cell? ⟨w.heap.size, 5, none⟩ = some (.slice A2 n2 c2) ∧ V.cell? ⟨w.heap.size + 1, 0, none⟩ = some (.bool s3) ∧ V.cell? ⟨w.heap.size + 1, 1, none⟩ = some (.slice A3 n3 c3) ∧ V.cell? ⟨w.heap.size + 1, 2, none⟩ = some (.bool s4) ∧ V.cell? ⟨w.heap.size + 1, 3, none⟩ = some (.slice A4 n4 c4) ∧ V.cell? ⟨w.heap.size + 1, 4, none⟩ = some (.bool s5) ∧ V.cell? ⟨w.heap.size + 1, 5, none⟩ = some (.slice A5 n5 c5) ∧ V.cell? ⟨w1.heap.size, 0, none⟩ = some (.bool s8) ∧ V.cell? ⟨w1.heap.size, 1, none⟩ = some (.slice A8 n8 c8))) (F := (fun j => j == 9)) (by kernel_rfl) ?_
  generalize X6.drew = v7 at H0 h0 h1 h2 h3 h4 h5 g8 b0 b1 b9 b5 ⊢
  refine wpAnyF_take (i := 0) (v := ?_) (fun j => j == 8 || j == 9) rfl (by kernel_rfl) (by kernel_rfl) (by kernel_rfl) (by kernel_rfl) (fun j hj => by have h6 : 10 ≤ j := hj; simp; omega) (fun _ _ _ h => h) (Or.inl ⟨by rfl, ?_⟩) (b0.and6 (b1.and6 (b5.all2))) ?_
  rotate_left
  · (intro w hSw; (try dsimp only at hSw); go_simp; (try with_reducible rfl))
  (try simp only [getElem_toArray, getElem_cons_zero, Act.put, setIfInBounds_toArray, set_cons_zero, set_cons_succ])
  refine wpAnyF_take (i := 1) (v := ?_) (fun j => j == 2 || j == 3 || j == 7 || j == 8 || j == 9) rfl (by kernel_rfl) (by kernel_rfl) (by kernel_rfl) (by kernel_rfl) (fun j hj => by have h6 : 10 ≤ j := hj; simp; omega) (fun _ _ _ h => h) (Or.inl ⟨by rfl, ?_⟩) (b0.and6 (b1.and6 (b5.all2))) ?_
  rotate_left
  · (intro w hSw; (try dsimp only at hSw); go_simp; (try with_reducible rfl))
  (try simp only [getElem_toArray, getElem_cons_succ, getElem_cons_zero, Act.put, setIfInBounds_toArray, set_cons_zero, set_cons_succ])
  refine wpAnyF_take (i := 4) (v := ?_) (fun j => j == 5 || j == 6 || j == 7 || j == 8 || j == 9) rfl (by kernel_rfl) (by kernel_rfl) (by kernel_rfl) (by kernel_rfl) (fun j hj => by have h6 : 10 ≤ j := hj; simp; omega) (fun _ _ _ h => h) (Or.inl ⟨by rfl, ?_⟩) (b0.and6 (b1.and6 (b5.all2))) ?_
  rotate_left
  · (intro w hSw; (try dsimp only at hSw); go_simp; (try with_reducible rfl))
  (try simp only [getElem_toArray, getElem_cons_succ, getElem_cons_zero, Act.put, setIfInBounds_toArray, set_cons_zero, set_cons_succ])
  refine wpAnyF_take (i := 2) (v := ?_) (fun j => j == 3 || j == 7 || j == 8 || j == 9) rfl (by kernel_rfl) (by kernel_rfl) (by kernel_rfl) (by kernel_rfl) (fun j hj => by have h6 : 10 ≤ j := hj; simp; omega) (fun _ _ _ h => h) (Or.inl ⟨by rfl, ?_⟩) (b0.and6 (b1.and6 (b5.all2))) ?_
  rotate_left
  · (intro w hSw; (try dsimp only at hSw); go_simp; (try with_reducible rfl))
  (try simp only [getElem_toArray, getElem_cons_succ, getElem_cons_zero, Act.put, setIfInBounds_toArray, set_cons_zero, set_cons_succ])
  refine wpAnyF_take (i := 5) (v := ?_) (fun j => j == 6 || j == 7 || j == 8 || j == 9) rfl (by kernel_rfl) (by kernel_rfl) (by kernel_rfl) (by kernel_rfl) (fun j hj => by have h6 : 10 ≤ j := hj; simp; omega) (fun _ _ _ h => h) (Or.inl ⟨by rfl, ?_⟩) (b0.and6 (b1.and6 (b5.all2))) ?_
  rotate_left
  · (intro w hSw; (try dsimp only at hSw); go_simp; (try with_reducible rfl))
  (try simp only [getElem_toArray, getElem_cons_succ, getElem_cons_zero, Act.put, setIfInBounds_toArray, set_cons_zero, set_cons_succ])
  refine wpAnyF_take (i := 3) (v := ?_) (fun j => j == 7 || j == 8 || j == 9) rfl (by kernel_rfl) (by kernel_rfl) (by kernel_rfl) (by kernel_rfl) (fun j hj => by have h6 : 10 ≤ j := hj; simp; omega) (fun _ _ _ h => h) (Or.inl ⟨by rfl, ?_⟩) (b0.and6 (b1.and6 (b5.all2))) ?_
  rotate_left
  · (intro w hSw; (try dsimp only at hSw); go_simp; (try with_reducible rfl))
  (try simp only [getElem_toArray, getElem_cons_succ, getElem_cons_zero, Act.put, setIfInBounds_toArray, set_cons_zero, set_cons_succ])
  refine wpAnyF_take (i := 6) (v := ?_) (fun j => j == 7 || j == 8 || j == 9) rfl (by kernel_rfl) (by kernel_rfl) (by kernel_rfl) (by kernel_rfl) (fun j hj => by have h6 : 10 ≤ j := hj; simp; omega) (fun _ _ _ h => h) (Or.inl ⟨by rfl, ?_⟩) (b0.and6 (b1.and6 (b5.all2))) ?_
  rotate_left
  · (intro w hSw; (try dsimp only at hSw); go_simp; (try with_reducible rfl))
  (try simp only [getElem_toArray, getElem_cons_succ, getElem_cons_zero, Act.put, setIfInBounds_toArray, set_cons_zero, set_cons_succ])
  refine wpAnyF_one (i := 7) (by kernel_rfl) rfl rfl (fun K hK => ?_)
  go_simp
  go_at_call 95
  refine (imul_v h2 h5 (by omega) (by omega)).mono ?_
  rintro e w8 ⟨s9, A9, n9, c9, rfl, g9, hb⟩
  replace h0 := h0.below hb
  replace h1 := h1.below hb
  replace h2 := h2.below hb
  replace h3 := h3.below hb
  replace h4 := h4.below hb
  replace h5 := h5.below hb
  replace g8 := g8.below hb
  replace b0 := b0.below hb
  replace b1 := b1.below hb
  replace b9 := b9.below hb
  replace b5 := b5.below hb
  replace H0 := H0.trans (hb.mono H0.size)
  clear hb
  go_wp2_with fail
  refine hK.out _ _ (b0.and6 (b1.and6 (b5.all2))) ?_
  clear hK K
  (try simp only [getElem_toArray, getElem_cons_succ, getElem_cons_zero, Act.put, setIfInBounds_toArray, set_cons_zero, set_cons_succ])
  refine wpAnyF_one (i := 8) (by kernel_rfl) rfl rfl (fun K hK => ?_)
  go_simp
  go_at_call 128
  refine (iadd_v g8.ri g9.ri (by omega) (by omega)).mono ?_
  rintro e w9 ⟨s10, A10, n10, c10, rfl, g10, hb⟩
  replace h0 := h0.below hb
  replace h1 := h1.below hb
  replace h2 := h2.below hb
  replace h3 := h3.below hb
  replace h4 := h4.below hb
  replace h5 := h5.below hb
  replace g8 := g8.below hb
  replace g9 := g9.below hb
  replace b0 := b0.below hb
  replace b1 := b1.below hb
  replace b9 := b9.below hb
  replace b5 := b5.below hb
  replace H0 := H0.trans (hb.mono H0.size)
  clear hb
  clear g8
  clear g9
  go_wp2_with fail
  refine hK.out _ _ (b0.and6 (b1.and6 (b5.all2))) ?_
  clear hK K
  (try simp only [getElem_toArray, getElem_cons_succ, getElem_cons_zero, Act.put, setIfInBounds_toArray, set_cons_zero, set_cons_succ])
  obtain ⟨cb50, yb50, cb51, yb51⟩ := b5.cf2
  refine wpAnyF_last (i := 9) (by kernel_rfl) rfl rfl (fun K hK => ?_)
  go_simp
  refine hK.out _ _ ?_
  clear hK K
  (try simp only [getElem_toArray, getElem_cons_succ, getElem_cons_zero, Act.put, setIfInBounds_toArray, set_cons_zero, set_cons_succ])
  clear cb50 yb50 cb51 yb51
  have hg := only_store w9 (w1.heap.size) (.bool s10) (.slice A10 n10 c10)
  have hB := b5.stored (.bool s10) (.slice A10 n10 c10)
  generalize hX : ((w9.setCell ⟨w1.heap.size, 0, none⟩ (.bool s10)).setCell ⟨w1.heap.size, 1, none⟩ (.slice A10 n10 c10)) = X10 at hg hB ⊢
  clear hX
  replace h0 := h0.kept b5 (by simp [notInt]) hg
  replace h1 := h1.kept b5 (by simp [notInt]) hg
  replace h2 := h2.kept b5 (by simp [notInt]) hg
  replace h3 := h3.kept b5 (by simp [notInt]) hg
  replace h4 := h4.kept b5 (by simp [notInt]) hg
  replace h5 := h5.kept b5 (by simp [notInt]) hg
  replace g10 := g10.kept b5 (by simp [notInt]) hg
  replace b0 := b0.other hg (by omega)
  replace b1 := b1.other hg (by omega)
  replace b9 := b9.other hg (by omega)
  replace b5 := hB
  replace H0 := below_only H0 hg (by omega) H0.size
  clear hg hB
  refine wpAny_done (by kernel_rfl) ?_ _
  refine NoPanic.normal ?_
  go_wp2_with fail
  rw [rounds_succ]
  obtain ⟨cb00, cb01, cb02, cb03, cb04, cb05⟩ := b0.cells6
  obtain ⟨cb50, cb51⟩ := b5.cells2
  obtain ⟨cb90, yb90, cb91, yb91⟩ := b9.cf2
  go_wp2_with fail
  clear cb00 cb01 cb02 cb03 cb04 cb05 cb50 cb51 cb90 yb90 cb91 yb91
  have hg := only_store X10 (w.heap.size + 1 + 1) (.bool s10) (.slice A10 n10 c10)
  have hB := b9.stored (.bool s10) (.slice A10 n10 c10)
  generalize hX : ((X10.setCell ⟨w.heap.size + 1 + 1, 0, none⟩ (.bool s10)).setCell ⟨w.heap.size + 1 + 1, 1, none⟩ (.slice A10 n10 c10)) = X11 at hg hB ⊢
  clear hX
  replace h0 := h0.kept b9 (by simp [notInt]) hg
  replace h1 := h1.kept b9 (by simp [notInt]) hg
  replace h2 := h2.kept b9 (by simp [notInt]) hg
  replace h3 := h3.kept b9 (by simp [notInt]) hg
  replace h4 := h4.kept b9 (by simp [notInt]) hg
  replace h5 := h5.kept b9 (by simp [notInt]) hg
  replace g10 := g10.kept b9 (by simp [notInt]) hg
  replace b0 := b0.other hg (by omega)
  replace b1 := b1.other hg (by omega)
  replace b5 := b5.other hg (by omega)
  replace b9 := hB
  replace H0 := below_only H0 hg (by omega) H0.size
  clear hg hB
  refine bodyPost_ret (ret_int rfl rfl b9) rfl ?_
  exact ⟨s10, A10, n10, c10, rfl, g10.more (by omega), H0⟩
set_option maxRecDepth 100000 in
set_option maxHeartbeats 4000000 in
theorem lacross_v (h0 : NI w s0 (.slice A0 n0 c0) z0 L) (h1 : NI w s1 (.slice A1 n1 c1) z1 L) (hL : L ≤ 1000000) :
    Calls Tryz.prog 94 #[.agg #[.bool s0, .slice A0 n0 c0, .bool s1, .slice A1 n1 c1, .bool s2, .slice A2 n2 c2]] w fun e w' => ∃ s6 A6 n6 c6 s7 A7 n7 c7 s8 A8 n8 c8, e = .returned (.agg #[.bool s6, .slice A6 n6 c6, .bool s7, .slice A7 n7 c7, .bool s8, .slice A8 n8 c8]) ∧ NI w' s6 (.slice A6 n6 c6) (z1) (L) ∧ NI w' s7 (.slice A7 n7 c7) (-z0) (L) ∧ NI w' s8 (.slice A8 n8 c8) (0) (L) ∧ Below w.heap.size w w' := by
  go_enter Tryz.func94, Tryz.ntmps94
  go_wp2_with fail
  obtain ⟨W0, hW, b0, b9, hbW, hszW0⟩ := boxes2 w #[.bool s0, .slice A0 n0 c0, .bool s1, .slice A1 n1 c1, .bool s2, .slice A2 n2 c2] #[.bool false, .slice none 0 0, .bool false, .slice none 0 0, .bool false, .slice none 0 0] 95 95
  rw [hW]
  clear hW
  replace h0 := h0.below hbW
  replace h1 := h1.below hbW
  have H0 := hbW
  clear hbW
  have hD := drawn_below W0
  replace h0 := h0.below hD
  replace h1 := h1.below hD
  replace b0 := b0.below hD
  replace b9 := b9.below hD
  replace H0 := H0.trans (hD.mono H0.size)
  clear hD
  refine wp_region_noPanic ?_
  refine wp_region_held_drew (S := (fun V => V.cell? ⟨w.heap.size, 0, none⟩ = some (.bool s0) ∧ V.cell? ⟨w.heap.size, 1, none⟩ = some (.slice A0 n0 c0) ∧ V.cell? ⟨w.heap.size, 2, none⟩ = some (.bool s1) ∧ V.cell? ⟨w.heap.size, 3, none⟩ = some (.slice A1 n1 c1) ∧ V.cell? ⟨w.heap.size, 4, none⟩ = some (.bool s2) ∧ V.cell? ⟨w.heap.size, 5, none⟩ = some (.slice A2 n2 c2))) (by kernel_rfl) (b0.all6) (fun hHeld => ?_)
  generalize W0.drew = v1 at H0 hHeld h0 h1 b0 b9 ⊢
  refine tk 0 ?_ rfl (by kernel_rfl) (by kernel_rfl) (by kernel_rfl) (fun _ _ _ h => h) (by rfl) ?_ (by assumption) ?_
  rotate_left
  · (intro w hSw; (try dsimp only at hSw); go_simp; (try with_reducible rfl))
  (try simp only [getElem_toArray, getElem_cons_zero, Act.put, setIfInBounds_toArray, set_cons_zero, set_cons_succ])
  refine tk 2 ?_ rfl (by kernel_rfl) (by kernel_rfl) (by kernel_rfl) (fun _ _ _ h => h) (by rfl) ?_ (by assumption) ?_
  rotate_left
  · (intro w hSw; (try dsimp only at hSw); go_simp; (try with_reducible rfl))
  (try simp only [getElem_toArray, getElem_cons_succ, getElem_cons_zero, Act.put, setIfInBounds_toArray, set_cons_zero, set_cons_succ])
  refine tk 5 ?_ rfl (by kernel_rfl) (by kernel_rfl) (by kernel_rfl) (fun _ _ _ h => h) (by rfl) ?_ (by assumption) ?_
  rotate_left
  · (intro w hSw; (try dsimp only at hSw); go_simp; (try with_reducible rfl))
  (try simp only [getElem_toArray, getElem_cons_succ, getElem_cons_zero, Act.put, setIfInBounds_toArray, set_cons_zero, set_cons_succ])
  refine tk 1 ?_ rfl (by kernel_rfl) (by kernel_rfl) (by kernel_rfl) (fun _ _ _ h => h) (by rfl) ?_ (by assumption) ?_
  rotate_left
  · (intro w hSw; (try dsimp only at hSw); go_simp; (try with_reducible rfl))
  (try simp only [getElem_toArray, getElem_cons_succ, getElem_cons_zero, Act.put, setIfInBounds_toArray, set_cons_zero, set_cons_succ])
  refine tk 3 ?_ rfl (by kernel_rfl) (by kernel_rfl) (by kernel_rfl) (fun _ _ _ h => h) (by rfl) ?_ (by assumption) ?_
  rotate_left
  · (intro w hSw; (try dsimp only at hSw); go_simp; (try with_reducible rfl))
  (try simp only [getElem_toArray, getElem_cons_succ, getElem_cons_zero, Act.put, setIfInBounds_toArray, set_cons_zero, set_cons_succ])
  refine rd1 4 (by kernel_rfl) rfl (fun K hK => ?_)
  go_simp
  go_at_call 87
  refine (ineg_v h0.ri hL).mono ?_
  rintro e w2 ⟨s3, A3, n3, c3, rfl, g3, hb⟩
  replace h0 := h0.below hb
  replace h1 := h1.below hb
  replace b0 := b0.below hb
  replace b9 := b9.below hb
  replace H0 := H0.trans (hb.mono H0.size)
  clear hb
  go_wp2_with fail
  refine hK.out _ _ (b0.all6) (fun hHeld => ?_)
  clear hK K
  (try simp only [getElem_toArray, getElem_cons_succ, getElem_cons_zero, Act.put, setIfInBounds_toArray, set_cons_zero, set_cons_succ])
  refine tk 6 ?_ rfl (by kernel_rfl) (by kernel_rfl) (by kernel_rfl) (fun _ _ _ h => h) (by rfl) ?_ (by assumption) ?_
  rotate_left
  · (intro w hSw; (try dsimp only at hSw); go_simp; (try with_reducible rfl))
  (try simp only [getElem_toArray, getElem_cons_succ, getElem_cons_zero, Act.put, setIfInBounds_toArray, set_cons_zero, set_cons_succ])
  obtain ⟨cb90, yb90, cb91, yb91, cb92, yb92, cb93, yb93, cb94, yb94, cb95, yb95⟩ := b9.cf6
  refine rd1 7 (by kernel_rfl) rfl (fun K hK => ?_)
  go_simp
  clear cb90 yb90 cb91 yb91 cb92 yb92 cb93 yb93 cb94 yb94 cb95 yb95
  have hg := only_store6 w2 (w.heap.size + 1) (.bool s1) (.slice A1 n1 c1) (.bool s3) (.slice A3 n3 c3) (.bool false) (.slice none 0 0)
  have hB := b9.stored6 (.bool s1) (.slice A1 n1 c1) (.bool s3) (.slice A3 n3 c3) (.bool false) (.slice none 0 0)
  generalize hX : ((((((w2.setCell ⟨w.heap.size + 1, 0, none⟩ (.bool s1)).setCell ⟨w.heap.size + 1, 1, none⟩ (.slice A1 n1 c1)).setCell ⟨w.heap.size + 1, 2, none⟩ (.bool s3)).setCell ⟨w.heap.size + 1, 3, none⟩ (.slice A3 n3 c3)).setCell ⟨w.heap.size + 1, 4, none⟩ (.bool false)).setCell ⟨w.heap.size + 1, 5, none⟩ (.slice none 0 0)) = X3 at hg hB ⊢
  clear hX
  replace h0 := h0.kept b9 (by simp [notInt]) hg
  replace h1 := h1.kept b9 (by simp [notInt]) hg
  replace g3 := g3.kept b9 (by simp [notInt]) hg
  replace b0 := b0.other hg (by omega)
  replace b9 := hB
  replace H0 := below_only H0 hg (by omega) H0.size
  clear hg hB
  refine hK.out _ _ (b0.all6) (fun hHeld => ?_)
  clear hK K
  (try simp only [getElem_toArray, getElem_cons_succ, getElem_cons_zero, Act.put, setIfInBounds_toArray, set_cons_zero, set_cons_succ])
  refine wpAnyH_done (by kernel_rfl) ?_ _
  refine NoPanic.normal ?_
  go_wp2_with fail
  refine bodyPost_ret (ret_coef rfl rfl b9) rfl ?_
  exact ⟨_, _, _, _, _, _, _, _, _, _, _, _, rfl, h1, g3, ⟨slice_nil _, rfl⟩, H0⟩
set_option maxRecDepth 100000 in
set_option maxHeartbeats 4000000 in
theorem lacrossat_v (h0 : NI w s0 (.slice A0 n0 c0) z0 L) (h1 : NI w s1 (.slice A1 n1 c1) z1 L) (h : NQ w s20 (.slice A20 n20 c20) (.slice D20 m20 e20) q0 L) (hL : L ≤ 10000) :
    Calls Tryz.prog 92 #[.agg #[.bool s0, .slice A0 n0 c0, .bool s1, .slice A1 n1 c1, .bool s2, .slice A2 n2 c2], .agg #[.bool s20, .slice A20 n20 c20, .slice D20 m20 e20]] w fun e w' => ∃ s6 A6 n6 c6 s7 A7 n7 c7 s8 A8 n8 c8, e = .returned (.agg #[.bool s6, .slice A6 n6 c6, .bool s7, .slice A7 n7 c7, .bool s8, .slice A8 n8 c8]) ∧ NI w' s6 (.slice A6 n6 c6) (z1 * (q0.den : Int)) (3 * max L 2 + 2) ∧ NI w' s7 (.slice A7 n7 c7) (-z0 * (q0.den : Int)) (3 * max L 2 + 2) ∧ NI w' s8 (.slice A8 n8 c8) (-((z1 * z1 + -z0 * -z0 + 0 * 0) * q0.num)) (3 * max L 2 + 2) ∧ Below w.heap.size w w' := by
  have hm : L ≤ max L 2 := by omega
  go_enter Tryz.func92, Tryz.ntmps92
  go_wp2_with fail
  obtain ⟨W0, hW, b0, b1, b9, hbW, hszW0⟩ := boxes3 w #[.bool s0, .slice A0 n0 c0, .bool s1, .slice A1 n1 c1, .bool s2, .slice A2 n2 c2] #[.bool s20, .slice A20 n20 c20, .slice D20 m20 e20] #[.bool false, .slice none 0 0, .bool false, .slice none 0 0, .bool false, .slice none 0 0] 95 52 95
  rw [hW]
  clear hW
  replace h0 := h0.below hbW
  replace h1 := h1.below hbW
  replace h := h.below hbW
  have H0 := hbW
  clear hbW
  obtain ⟨cb00, cb01, cb02, cb03, cb04, cb05⟩ := b0.cells6
  obtain ⟨cb10, cb11, cb12⟩ := b1.cells3
  go_wp2_with fail
  clear cb00 cb01 cb02 cb03 cb04 cb05 cb10 cb11 cb12
  refine (lfrac_v h).mono ?_
  rintro e w1 ⟨s3, A3, n3, c3, s4, A4, n4, c4, rfl, g3, g4, hb⟩
  replace h0 := h0.below hb
  replace h1 := h1.below hb
  replace h := h.below hb
  replace b0 := b0.below hb
  replace b1 := b1.below hb
  replace b9 := b9.below hb
  replace H0 := H0.trans (hb.mono H0.size)
  clear hb
  clear h
  have lb0_2 := b0.lt
  have lb1_2 := b1.lt
  have lb9_2 := b9.lt
  obtain ⟨W2, hW, b3, hbW, hszW2⟩ := boxes1 w1 #[.bool s3, .slice A3 n3 c3] 25
  skip
  skip
  replace h0 := h0.below hbW
  replace h1 := h1.below hbW
  replace g3 := g3.below hbW
  replace g4 := g4.below hbW
  replace b0 := b0.below hbW
  replace b1 := b1.below hbW
  replace b9 := b9.below hbW
  replace H0 := H0.trans (hbW.mono H0.size)
  clear hbW
  have hWa := hW
  clear hW
  have lb0_3 := b0.lt
  have lb1_3 := b1.lt
  have lb9_3 := b9.lt
  have lb3_3 := b3.lt
  obtain ⟨W3, hW, b4, hbW, hszW3⟩ := boxes1 W2 #[.bool s4, .slice A4 n4 c4] 25
  skip
  skip
  replace h0 := h0.below hbW
  replace h1 := h1.below hbW
  replace g3 := g3.below hbW
  replace g4 := g4.below hbW
  replace b0 := b0.below hbW
  replace b1 := b1.below hbW
  replace b9 := b9.below hbW
  replace b3 := b3.below hbW
  replace H0 := H0.trans (hbW.mono H0.size)
  clear hbW
  have hWb := hW
  clear hW
  rw [hszW2] at b4
  obtain ⟨cb00, cb01, cb02, cb03, cb04, cb05⟩ := b0.cells6
  go_wp2_with fail
  clear hWa hWb
  clear cb00 cb01 cb02 cb03 cb04 cb05
  refine (lacross_v h0 h1 (by omega)).mono ?_
  rintro e w4 ⟨s6, A6, n6, c6, s7, A7, n7, c7, s8, A8, n8, c8, rfl, g6, g7, g8, hb⟩
  replace h0 := h0.below hb
  replace h1 := h1.below hb
  replace g3 := g3.below hb
  replace g4 := g4.below hb
  replace b0 := b0.below hb
  replace b1 := b1.below hb
  replace b9 := b9.below hb
  replace b3 := b3.below hb
  replace b4 := b4.below hb
  replace H0 := H0.trans (hb.mono H0.size)
  clear hb
  clear h0
  clear h1
  have lb0_5 := b0.lt
  have lb1_5 := b1.lt
  have lb9_5 := b9.lt
  have lb3_5 := b3.lt
  have lb4_5 := b4.lt
  obtain ⟨W5, hW, b7, hbW, hszW5⟩ := boxes1 w4 #[.bool s6, .slice A6 n6 c6, .bool s7, .slice A7 n7 c7, .bool s8, .slice A8 n8 c8] 95
  skip
  skip
  replace g3 := g3.below hbW
  replace g4 := g4.below hbW
  replace g6 := g6.below hbW
  replace g7 := g7.below hbW
  replace g8 := g8.below hbW
  replace b0 := b0.below hbW
  replace b1 := b1.below hbW
  replace b9 := b9.below hbW
  replace b3 := b3.below hbW
  replace b4 := b4.below hbW
  replace H0 := H0.trans (hbW.mono H0.size)
  clear hbW
  obtain ⟨cb70, cb71, cb72, cb73, cb74, cb75⟩ := b7.cells6
  go_wp2_with fail
  clear hW
  clear cb70 cb71 cb72 cb73 cb74 cb75
  have hD := drawn_below W5
  replace g3 := g3.below hD
  replace g4 := g4.below hD
  replace g6 := g6.below hD
  replace g7 := g7.below hD
  replace g8 := g8.below hD
  replace b0 := b0.below hD
  replace b1 := b1.below hD
  replace b9 := b9.below hD
  replace b3 := b3.below hD
  replace b4 := b4.below hD
  replace b7 := b7.below hD
  replace H0 := H0.trans (hD.mono H0.size)
  clear hD
  refine wp_region_noPanic ?_
  refine wp_region_held_drew (S := (fun V => V.cell? ⟨w4.heap.size, 0, none⟩ = some (.bool s6) ∧ V.cell? ⟨w4.heap.size, 1, none⟩ = some (.slice A6 n6 c6) ∧ V.cell? ⟨w4.heap.size, 2, none⟩ = some (.bool s7) ∧ V.cell? ⟨w4.heap.size, 3, none⟩ = some (.slice A7 n7 c7) ∧ V.cell? ⟨w4.heap.size, 4, none⟩ = some (.bool s8) ∧ V.cell? ⟨w4.heap.size, 5, none⟩ = some (.slice A8 n8 c8) ∧ V.cell? ⟨w1.heap.size + 1, 0, none⟩ = some (.bool s4) ∧ V.cell? ⟨w1.heap.size + 1, 1, none⟩ = some (.slice A4 n4 c4) ∧ V.cell? ⟨w1.heap.size, 0, none⟩ = some (.bool s3) ∧ V.cell? ⟨w1.heap.size, 1, none⟩ = some (.slice A3 n3 c3))) (by kernel_rfl) (b7.and6 (b4.and2 (b3.all2))) (fun hHeld => ?_)
  generalize W5.drew = v6 at H0 hHeld g3 g4 g6 g7 g8 b0 b1 b9 b3 b4 b7 ⊢
  refine tk 0 ?_ rfl (by kernel_rfl) (by kernel_rfl) (by kernel_rfl) (fun _ _ _ h => h) (by rfl) ?_ (by assumption) ?_
  rotate_left
  · (intro w hSw; (try dsimp only at hSw); go_simp; (try with_reducible rfl))
  (try simp only [getElem_toArray, getElem_cons_zero, Act.put, setIfInBounds_toArray, set_cons_zero, set_cons_succ])
  refine tk 2 ?_ rfl (by kernel_rfl) (by kernel_rfl) (by kernel_rfl) (fun _ _ _ h => h) (by rfl) ?_ (by assumption) ?_
  rotate_left
  · (intro w hSw; (try dsimp only at hSw); go_simp; (try with_reducible rfl))
  (try simp only [getElem_toArray, getElem_cons_succ, getElem_cons_zero, Act.put, setIfInBounds_toArray, set_cons_zero, set_cons_succ])
  refine tk 4 ?_ rfl (by kernel_rfl) (by kernel_rfl) (by kernel_rfl) (fun _ _ _ h => h) (by rfl) ?_ (by assumption) ?_
  rotate_left
  · (intro w hSw; (try dsimp only at hSw); go_simp; (try with_reducible rfl))
  (try simp only [getElem_toArray, getElem_cons_succ, getElem_cons_zero, Act.put, setIfInBounds_toArray, set_cons_zero, set_cons_succ])
  refine tk 6 ?_ rfl (by kernel_rfl) (by kernel_rfl) (by kernel_rfl) (fun _ _ _ h => h) (by rfl) ?_ (by assumption) ?_
  rotate_left
  · (intro w hSw; (try dsimp only at hSw); go_simp; (try with_reducible rfl))
  (try simp only [getElem_toArray, getElem_cons_succ, getElem_cons_zero, Act.put, setIfInBounds_toArray, set_cons_zero, set_cons_succ])
  refine tk 8 ?_ rfl (by kernel_rfl) (by kernel_rfl) (by kernel_rfl) (fun _ _ _ h => h) (by rfl) ?_ (by assumption) ?_
  rotate_left
  · (intro w hSw; (try dsimp only at hSw); go_simp; (try with_reducible rfl))
  (try simp only [getElem_toArray, getElem_cons_succ, getElem_cons_zero, Act.put, setIfInBounds_toArray, set_cons_zero, set_cons_succ])
  refine tk 9 ?_ rfl (by kernel_rfl) (by kernel_rfl) (by kernel_rfl) (fun _ _ _ h => h) (by rfl) ?_ (by assumption) ?_
  rotate_left
  · (intro w hSw; (try dsimp only at hSw); go_simp; (try with_reducible rfl))
  (try simp only [getElem_toArray, getElem_cons_succ, getElem_cons_zero, Act.put, setIfInBounds_toArray, set_cons_zero, set_cons_succ])
  refine tk 11 ?_ rfl (by kernel_rfl) (by kernel_rfl) (by kernel_rfl) (fun _ _ _ h => h) (by rfl) ?_ (by assumption) ?_
  rotate_left
  · (intro w hSw; (try dsimp only at hSw); go_simp; (try with_reducible rfl))
  (try simp only [getElem_toArray, getElem_cons_succ, getElem_cons_zero, Act.put, setIfInBounds_toArray, set_cons_zero, set_cons_succ])
  refine tk 1 ?_ rfl (by kernel_rfl) (by kernel_rfl) (by kernel_rfl) (fun _ _ _ h => h) (by rfl) ?_ (by assumption) ?_
  rotate_left
  · (intro w hSw; (try dsimp only at hSw); go_simp; (try with_reducible rfl))
  (try simp only [getElem_toArray, getElem_cons_succ, getElem_cons_zero, Act.put, setIfInBounds_toArray, set_cons_zero, set_cons_succ])
  refine tk 5 ?_ rfl (by kernel_rfl) (by kernel_rfl) (by kernel_rfl) (fun _ _ _ h => h) (by rfl) ?_ (by assumption) ?_
  rotate_left
  · (intro w hSw; (try dsimp only at hSw); go_simp; (try with_reducible rfl))
  (try simp only [getElem_toArray, getElem_cons_succ, getElem_cons_zero, Act.put, setIfInBounds_toArray, set_cons_zero, set_cons_succ])
  refine rd1 3 (by kernel_rfl) rfl (fun K hK => ?_)
  go_simp
  go_at_call 95
  refine (imul_v g6.ri g4.ri (by omega) (by omega)).mono ?_
  rintro e w7 ⟨s9, A9, n9, c9, rfl, g9, hb⟩
  replace g3 := g3.below hb
  replace g4 := g4.below hb
  replace g6 := g6.below hb
  replace g7 := g7.below hb
  replace g8 := g8.below hb
  replace b0 := b0.below hb
  replace b1 := b1.below hb
  replace b9 := b9.below hb
  replace b3 := b3.below hb
  replace b4 := b4.below hb
  replace b7 := b7.below hb
  replace H0 := H0.trans (hb.mono H0.size)
  clear hb
  go_wp2_with fail
  refine hK.out _ _ (b7.and6 (b4.and2 (b3.all2))) (fun hHeld => ?_)
  clear hK K
  (try simp only [getElem_toArray, getElem_cons_succ, getElem_cons_zero, Act.put, setIfInBounds_toArray, set_cons_zero, set_cons_succ])
  refine rd1 7 (by kernel_rfl) rfl (fun K hK => ?_)
  go_simp
  go_at_call 95
  refine (imul_v g7.ri g4.ri (by omega) (by omega)).mono ?_
  rintro e w8 ⟨s10, A10, n10, c10, rfl, g10, hb⟩
  replace g3 := g3.below hb
  replace g4 := g4.below hb
  replace g6 := g6.below hb
  replace g7 := g7.below hb
  replace g8 := g8.below hb
  replace g9 := g9.below hb
  replace b0 := b0.below hb
  replace b1 := b1.below hb
  replace b9 := b9.below hb
  replace b3 := b3.below hb
  replace b4 := b4.below hb
  replace b7 := b7.below hb
  replace H0 := H0.trans (hb.mono H0.size)
  clear hb
  go_wp2_with fail
  refine hK.out _ _ (b7.and6 (b4.and2 (b3.all2))) (fun hHeld => ?_)
  clear hK K
  (try simp only [getElem_toArray, getElem_cons_succ, getElem_cons_zero, Act.put, setIfInBounds_toArray, set_cons_zero, set_cons_succ])
  refine rd1 10 (by kernel_rfl) rfl (fun K hK => ?_)
  go_simp
  go_at_call 96
  refine (cdot_v (g6.ri.more hm) (g7.ri.more hm) (g8.ri.more hm) (g6.ri.more hm) (g7.ri.more hm) (g8.ri.more hm) (by omega)).mono ?_
  rintro e w9 ⟨s11, A11, n11, c11, rfl, g11, hb⟩
  replace g3 := g3.below hb
  replace g4 := g4.below hb
  replace g6 := g6.below hb
  replace g7 := g7.below hb
  replace g8 := g8.below hb
  replace g9 := g9.below hb
  replace g10 := g10.below hb
  replace b0 := b0.below hb
  replace b1 := b1.below hb
  replace b9 := b9.below hb
  replace b3 := b3.below hb
  replace b4 := b4.below hb
  replace b7 := b7.below hb
  replace H0 := H0.trans (hb.mono H0.size)
  clear hb
  go_wp2_with fail
  refine hK.out _ _ (b7.and6 (b4.and2 (b3.all2))) (fun hHeld => ?_)
  clear hK K
  (try simp only [getElem_toArray, getElem_cons_succ, getElem_cons_zero, Act.put, setIfInBounds_toArray, set_cons_zero, set_cons_succ])
  refine rd1 12 (by kernel_rfl) rfl (fun K hK => ?_)
  go_simp
  go_at_call 95
  refine (imul_v g11.ri g3.ri (by omega) (by omega)).mono ?_
  rintro e w10 ⟨s12, A12, n12, c12, rfl, g12, hb⟩
  replace g3 := g3.below hb
  replace g4 := g4.below hb
  replace g6 := g6.below hb
  replace g7 := g7.below hb
  replace g8 := g8.below hb
  replace g9 := g9.below hb
  replace g10 := g10.below hb
  replace g11 := g11.below hb
  replace b0 := b0.below hb
  replace b1 := b1.below hb
  replace b9 := b9.below hb
  replace b3 := b3.below hb
  replace b4 := b4.below hb
  replace b7 := b7.below hb
  replace H0 := H0.trans (hb.mono H0.size)
  clear hb
  go_wp2_with fail
  refine hK.out _ _ (b7.and6 (b4.and2 (b3.all2))) (fun hHeld => ?_)
  clear hK K
  (try simp only [getElem_toArray, getElem_cons_succ, getElem_cons_zero, Act.put, setIfInBounds_toArray, set_cons_zero, set_cons_succ])
  refine rd1 13 (by kernel_rfl) rfl (fun K hK => ?_)
  go_simp
  go_at_call 87
  refine (ineg_v g12.ri (by omega)).mono ?_
  rintro e w11 ⟨s13, A13, n13, c13, rfl, g13, hb⟩
  replace g3 := g3.below hb
  replace g4 := g4.below hb
  replace g6 := g6.below hb
  replace g7 := g7.below hb
  replace g8 := g8.below hb
  replace g9 := g9.below hb
  replace g10 := g10.below hb
  replace g11 := g11.below hb
  replace g12 := g12.below hb
  replace b0 := b0.below hb
  replace b1 := b1.below hb
  replace b9 := b9.below hb
  replace b3 := b3.below hb
  replace b4 := b4.below hb
  replace b7 := b7.below hb
  replace H0 := H0.trans (hb.mono H0.size)
  clear hb
  go_wp2_with fail
  refine hK.out _ _ (b7.and6 (b4.and2 (b3.all2))) (fun hHeld => ?_)
  clear hK K
  (try simp only [getElem_toArray, getElem_cons_succ, getElem_cons_zero, Act.put, setIfInBounds_toArray, set_cons_zero, set_cons_succ])
  refine tk 14 ?_ rfl (by kernel_rfl) (by kernel_rfl) (by kernel_rfl) (fun _ _ _ h => h) (by rfl) ?_ (by assumption) ?_
  rotate_left
  · (intro w hSw; (try dsimp only at hSw); go_simp; (try with_reducible rfl))
  (try simp only [getElem_toArray, getElem_cons_succ, getElem_cons_zero, Act.put, setIfInBounds_toArray, set_cons_zero, set_cons_succ])
  obtain ⟨cb90, yb90, cb91, yb91, cb92, yb92, cb93, yb93, cb94, yb94, cb95, yb95⟩ := b9.cf6
  refine rd1 15 (by kernel_rfl) rfl (fun K hK => ?_)
  go_simp
  clear cb90 yb90 cb91 yb91 cb92 yb92 cb93 yb93 cb94 yb94 cb95 yb95
  have hg := only_store6 w11 (w.heap.size + 1 + 1) (.bool s9) (.slice A9 n9 c9) (.bool s10) (.slice A10 n10 c10) (.bool s13) (.slice A13 n13 c13)
  have hB := b9.stored6 (.bool s9) (.slice A9 n9 c9) (.bool s10) (.slice A10 n10 c10) (.bool s13) (.slice A13 n13 c13)
  generalize hX : ((((((w11.setCell ⟨w.heap.size + 1 + 1, 0, none⟩ (.bool s9)).setCell ⟨w.heap.size + 1 + 1, 1, none⟩ (.slice A9 n9 c9)).setCell ⟨w.heap.size + 1 + 1, 2, none⟩ (.bool s10)).setCell ⟨w.heap.size + 1 + 1, 3, none⟩ (.slice A10 n10 c10)).setCell ⟨w.heap.size + 1 + 1, 4, none⟩ (.bool s13)).setCell ⟨w.heap.size + 1 + 1, 5, none⟩ (.slice A13 n13 c13)) = X12 at hg hB ⊢
  clear hX
  replace g3 := g3.kept b9 (by simp [notInt]) hg
  replace g4 := g4.kept b9 (by simp [notInt]) hg
  replace g6 := g6.kept b9 (by simp [notInt]) hg
  replace g7 := g7.kept b9 (by simp [notInt]) hg
  replace g8 := g8.kept b9 (by simp [notInt]) hg
  replace g9 := g9.kept b9 (by simp [notInt]) hg
  replace g10 := g10.kept b9 (by simp [notInt]) hg
  replace g11 := g11.kept b9 (by simp [notInt]) hg
  replace g12 := g12.kept b9 (by simp [notInt]) hg
  replace g13 := g13.kept b9 (by simp [notInt]) hg
  replace b0 := b0.other hg (by omega)
  replace b1 := b1.other hg (by omega)
  replace b3 := b3.other hg (by omega)
  replace b4 := b4.other hg (by omega)
  replace b7 := b7.other hg (by omega)
  replace b9 := hB
  replace H0 := below_only H0 hg (by omega) H0.size
  clear hg hB
  refine hK.out _ _ (b7.and6 (b4.and2 (b3.all2))) (fun hHeld => ?_)
  clear hK K
  (try simp only [getElem_toArray, getElem_cons_succ, getElem_cons_zero, Act.put, setIfInBounds_toArray, set_cons_zero, set_cons_succ])
  refine wpAnyH_done (by kernel_rfl) ?_ _
  refine NoPanic.normal ?_
  go_wp2_with fail
  refine bodyPost_ret (ret_coef rfl rfl b9) rfl ?_
  exact ⟨_, _, _, _, _, _, _, _, _, _, _, _, rfl, g9.more (by omega), g10.more (by omega), g13.more (by omega), H0⟩
end
end Go.Proofs.YtancgkmkbgkncaaGreat
namespace Go.Proofs.YtancgkmkbgkncaaGreat
open List (getElem_toArray getElem_cons_succ getElem_cons_zero setIfInBounds_toArray set_cons_zero set_cons_succ)
open Go.RowKit

section
variable {A0 A1 A2 A3 A4 A5 A6 A7 A8 A9 A10 A11 A12 A13 A14 A15 A16 A17 A20 A21 D0 D1 D2 D3 D4 D5 D6 D7 D13 D15 D16 D17 D20 D21 : Option Addr} {n0 n1 n2 n3 n4 n5 n6 n7 n8 n9 n10 n11 n12 n13 n14 n15 n16 n17 n20 n21 c0 c1 c2 c3 c4 c5 c6 c7 c8 c9 c10 c11 c12 c13 c14 c15 c16 c17 c20 c21 m0 m1 m2 m3 m4 m5 m6 m7 m13 m15 m16 m17 m20 m21 e0 e1 e2 e3 e4 e5 e6 e7 e13 e15 e16 e17 e20 e21 : Nat} {s0 s1 s2 s3 s4 s5 s6 s7 s8 s9 s10 s11 s12 s13 s14 s15 s16 s17 s20 s21 : Bool} {q0 q1 q2 q3 q4 q5 q6 q7 : Rat} {z0 z1 z2 z3 z4 z5 z6 z7 z8 z9 z10 z11 : Int} {L L0 L1 x y : Nat} {k : Int} {b : Bool} {w : World}
theorem pr_one {a b c : Int} (h : gcd3 a b c = 1) (x : Int) : pr x a b c = x := by unfold pr; rw [h]; exact Int.ediv_one x
end
end Go.Proofs.YtancgkmkbgkncaaGreat
namespace Go.Proofs.YtancgkmkbgkncaaGreat
open List (getElem_toArray getElem_cons_succ getElem_cons_zero setIfInBounds_toArray set_cons_zero set_cons_succ)
open Go.RowKit

section
variable {A0 A1 A2 A3 D0 D1 D2 D3 : Option Addr} {n0 n1 n2 n3 c0 c1 c2 c3 m0 m1 m2 m3 e0 e1 e2 e3 : Nat} {s0 s1 s2 s3 : Bool} {z z' z0 z1 z2 : Int} {q q' q0 q1 q2 : Rat} {L L0 L1 L2 x x0 x1 y : Nat} {k : Int} {w : World}
set_option maxRecDepth 100000 in
set_option maxHeartbeats 800000 in
theorem refq_v (h : RQ w s0 (.slice A0 n0 c0) (.slice D0 m0 e0) q L) (hL : L ≤ 900) :
    Calls Tryz.prog 51 #[.agg #[.bool s0, .slice A0 n0 c0, .slice D0 m0 e0]] w fun e w' => ∃ s1 A1 n1 c1 D1 m1 e1, e = .returned (.agg #[.bool s1, .slice A1 n1 c1, .slice D1 m1 e1]) ∧ PQ w' s1 (.slice A1 n1 c1) (.slice D1 m1 e1) q L ∧ Below w.heap.size w w' := by
  obtain ⟨z, d, h1, h2, rfl⟩ := h
  rcases Decidable.em (d = 0) with h0 | h0
  · subst h0
    rw [Rat.mkRat_zero]
    clear h1
    go_enter Tryz.func51, Tryz.ntmps51
    go_wp2_with fail
    obtain ⟨W0, hW, b0, b1, hbW, hszW0⟩ := boxes2 w #[.bool s0, .slice A0 n0 c0, .slice D0 m0 e0] #[.bool false, .slice none 0 0, .slice none 0 0] 52 46
    rw [hW]
    clear hW
    replace h2 := h2.below hbW
    have H0 := hbW
    clear hbW
    obtain ⟨cb00, cb01, cb02⟩ := b0.cells3
    go_wp2_with fail
    clear cb00 cb01 cb02
    refine (n_v h2).mono ?_
    rintro e w1 ⟨D2, m2, e2, rfl, fd, hb⟩
    replace h2 := h2.below hb
    replace b0 := b0.below hb
    replace b1 := b1.below hb
    replace H0 := H0.trans (hb.mono H0.size)
    clear hb
    have hm := nv_zero fd
    subst hm
    clear h2
    clear fd
    obtain ⟨cb10, yb10, cb11, yb11, cb12, yb12⟩ := b1.cf3
    go_wp2_with fail
    clear cb10 yb10 cb11 yb11 cb12 yb12
    have hg := only_store3 w1 (w.heap.size + 1) (.bool false) (.slice none 0 0) (.slice none 0 0)
    have hB := b1.stored3 (.bool false) (.slice none 0 0) (.slice none 0 0)
    generalize hX : (((w1.setCell ⟨w.heap.size + 1, 0, none⟩ (.bool false)).setCell ⟨w.heap.size + 1, 1, none⟩ (.slice none 0 0)).setCell ⟨w.heap.size + 1, 2, none⟩ (.slice none 0 0)) = X2 at hg hB ⊢
    clear hX
    replace b0 := b0.other hg (by omega)
    replace b1 := hB
    replace H0 := below_only H0 hg (by omega) H0.size
    clear hg hB
    refine bodyPost_ret (ret_numq rfl rfl b1) rfl ?_
    exact ⟨false, none, 0, 0, none, 0, 0, rfl, PQ.zero _, H0⟩
  · have HP := Lib.hid (Nat.pos_of_ne_zero h0)
    have HN := Lib.hid h0
    clear h0
    go_enter Tryz.func51, Tryz.ntmps51
    go_wp2_with fail
    obtain ⟨W0, hW, b0, b1, hbW, hszW0⟩ := boxes2 w #[.bool s0, .slice A0 n0 c0, .slice D0 m0 e0] #[.bool false, .slice none 0 0, .slice none 0 0] 52 46
    rw [hW]
    clear hW
    replace h1 := h1.below hbW
    replace h2 := h2.below hbW
    have H0 := hbW
    clear hbW
    obtain ⟨cb00, cb01, cb02⟩ := b0.cells3
    go_wp2_with fail
    clear cb00 cb01 cb02
    refine (n_v h2).mono ?_
    rintro e w1 ⟨D2, m2, e2, rfl, fd, hb⟩
    replace h1 := h1.below hb
    replace h2 := h2.below hb
    replace b0 := b0.below hb
    replace b1 := b1.below hb
    replace H0 := H0.trans (hb.mono H0.size)
    clear hb
    clear h2
    have hm := nv_pos fd HP.out
    have hm1 : ((m2 : Int) == 0) = false := by rw [beq_eq_false_iff_ne]; omega
    obtain ⟨cb00, cb01, cb02⟩ := b0.cells3
    go_wp2_with fail
    clear cb00 cb01 cb02
    refine (refI_v h1).mono ?_
    rintro e w2 ⟨s3, A3, n3, c3, rfl, fi, hb⟩
    replace h1 := h1.below hb
    replace fd := fd.below hb
    replace b0 := b0.below hb
    replace b1 := b1.below hb
    replace H0 := H0.trans (hb.mono H0.size)
    clear hb
    go_wp2_with fail
    clear h1
    refine (nfrac_v fi fd HN.out (by omega)).mono ?_
    rintro e w3 ⟨s4, A4, n4, c4, D4, m4, e4, rfl, fq, hb⟩
    replace fd := fd.below hb
    replace fi := fi.below hb
    replace b0 := b0.below hb
    replace b1 := b1.below hb
    replace H0 := H0.trans (hb.mono H0.size)
    clear hb
    obtain ⟨cb10, yb10, cb11, yb11, cb12, yb12⟩ := b1.cf3
    clear fi
    clear fd
    clear cb10 yb10 cb11 yb11 cb12 yb12
    obtain ⟨cb10, yb10, cb11, yb11, cb12, yb12⟩ := b1.cf3
    go_wp2_with fail
    clear cb10 yb10 cb11 yb11 cb12 yb12
    have hg := only_store3 w3 (w.heap.size + 1) (.bool s4) (.slice A4 n4 c4) (.slice D4 m4 e4)
    have hB := b1.stored3 (.bool s4) (.slice A4 n4 c4) (.slice D4 m4 e4)
    generalize hX : (((w3.setCell ⟨w.heap.size + 1, 0, none⟩ (.bool s4)).setCell ⟨w.heap.size + 1, 1, none⟩ (.slice A4 n4 c4)).setCell ⟨w.heap.size + 1, 2, none⟩ (.slice D4 m4 e4)) = X4 at hg hB ⊢
    clear hX
    replace fq := fq.kept b1 (by simp [notInt]) hg
    replace b0 := b0.other hg (by omega)
    replace b1 := hB
    replace H0 := below_only H0 hg (by omega) H0.size
    clear hg hB
    refine bodyPost_ret (ret_numq rfl rfl b1) rfl ?_
    exact ⟨s4, A4, n4, c4, D4, m4, e4, rfl, fq, H0⟩
end
end Go.Proofs.YtancgkmkbgkncaaGreat
namespace Go.Proofs.YtancgkmkbgkncaaGreat
open List (getElem_toArray getElem_cons_succ getElem_cons_zero setIfInBounds_toArray set_cons_zero set_cons_succ)
open Go.RowKit

section
variable {A0 A1 A2 A3 A4 A5 A6 A7 A8 A9 A10 A11 A12 A13 A14 A15 A16 A17 A20 A21 D0 D1 D2 D3 D4 D5 D6 D7 D13 D15 D16 D17 D20 D21 : Option Addr} {n0 n1 n2 n3 n4 n5 n6 n7 n8 n9 n10 n11 n12 n13 n14 n15 n16 n17 n20 n21 c0 c1 c2 c3 c4 c5 c6 c7 c8 c9 c10 c11 c12 c13 c14 c15 c16 c17 c20 c21 m0 m1 m2 m3 m4 m5 m6 m7 m13 m15 m16 m17 m20 m21 e0 e1 e2 e3 e4 e5 e6 e7 e13 e15 e16 e17 e20 e21 : Nat} {s0 s1 s2 s3 s4 s5 s6 s7 s8 s9 s10 s11 s12 s13 s14 s15 s16 s17 s20 s21 : Bool} {q0 q1 q2 q3 q4 q5 q6 q7 : Rat} {z0 z1 z2 z3 z4 z5 z6 z7 z8 z9 z10 z11 : Int} {L L0 L1 x y : Nat} {k : Int} {b : Bool} {w : World}
theorem hom_ne {q q' : Rat} {u v d : Int} (h : Hom q q' u v d) : (d : Rat) ≠ 0 := int_ne (by have := h.1; omega)
theorem hom_val {q q' : Rat} {u v d : Int} (h : Hom q q' u v d) (a b c : Int) : ((a * u + b * v + c * d : Int) : Rat) / (d : Rat) = (a : Rat) * q + (b : Rat) * q' + (c : Rat) := by
  rw [hom_dot h]; have := hom_ne h; grind
/-- The square of the length of the direction. -/
theorem sqd_pos {a b : Int} (h : ¬ (a = 0 ∧ b = 0)) : 0 < b * b + -a * -a := by
  have h1 : 0 ≤ b * b := by rcases Int.le_total 0 b with h | h; exact Int.mul_nonneg h h; exact Int.mul_nonneg_of_nonpos_of_nonpos h h
  have h2 : 0 ≤ -a * -a := by rcases Int.le_total 0 (-a) with h | h; exact Int.mul_nonneg h h; exact Int.mul_nonneg_of_nonpos_of_nonpos h h
  rcases Decidable.em (b = 0) with hb | hb
  · have ha : a ≠ 0 := fun ha => h ⟨ha, hb⟩
    have : -a * -a ≠ 0 := Int.mul_ne_zero (by omega) (by omega)
    omega
  · have : b * b ≠ 0 := Int.mul_ne_zero hb hb
    omega
/-- The point of a line with a parameter. -/
def atX (z0 z1 z2 : Int) (q : Rat) : Rat := -((z2 : Rat) / ((z1 : Rat) * (z1 : Rat) + -(z0 : Rat) * -(z0 : Rat))) * (z0 : Rat) + q * (z1 : Rat)
def atY (z0 z1 z2 : Int) (q : Rat) : Rat := -((z2 : Rat) / ((z1 : Rat) * (z1 : Rat) + -(z0 : Rat) * -(z0 : Rat))) * (z1 : Rat) + q * -(z0 : Rat)
theorem sqd_ne {a b : Int} (h : ¬ (a = 0 ∧ b = 0)) : (b : Rat) * (b : Rat) + -(a : Rat) * -(a : Rat) ≠ 0 := by
  have h1 := int_ne (show b * b + -a * -a ≠ 0 by have := sqd_pos h; omega)
  rwa [Rat.intCast_add, Rat.intCast_mul, Rat.intCast_mul, Rat.intCast_neg] at h1
theorem at_den {z0 z1 : Int} (h : ¬ (z0 = 0 ∧ z1 = 0)) {d : Int} (hd : 0 < d) : z0 * (-z0 * d) - z1 * (z1 * d) ≠ 0 := by
  have h1 := sqd_pos h
  have h2 : z0 * (-z0 * d) - z1 * (z1 * d) = -((z1 * z1 + -z0 * -z0) * d) := by grind
  rw [h2]
  have := Int.mul_pos h1 hd
  omega
theorem at_x {z0 z1 : Int} (z2 : Int) (h : ¬ (z0 = 0 ∧ z1 = 0)) (q : Rat) : (((z1 * -((z1 * z1 + -z0 * -z0 + 0 * 0) * q.num) - z2 * (-z0 * (q.den : Int)) : Int)) : Rat) / ((z0 * (-z0 * (q.den : Int)) - z1 * (z1 * (q.den : Int)) : Int) : Rat) = atX z0 z1 z2 q := by
  have hs := sqd_ne h
  have hn := num_cast q
  have hd := den_cast_ne q
  unfold atX
  simp only [Rat.intCast_sub, Rat.intCast_mul, Rat.intCast_neg, Rat.intCast_add, Rat.intCast_natCast, hn]
  rw [show ((0 : Int) : Rat) = 0 from rfl]
  generalize (q.den : Rat) = d at *
  generalize (z0 : Rat) = a at *
  generalize (z1 : Rat) = b at *
  generalize (z2 : Rat) = c at *
  have e : a * (-a * d) - b * (b * d) = -(b * b + -a * -a) * d := by grind
  rw [e]
  generalize hm : b * b + -a * -a = m at *
  rw [show (b * -((m + 0 * 0) * (q * d)) - c * (-a * d)) = -(m * d) * (q * b) + (a * c) * d by grind]
  have hmd : -m * d ≠ 0 := by
    intro h0
    rcases Rat.mul_eq_zero.1 h0 with h1 | h1
    · exact hs (by grind)
    · exact hd h1
  clear hm e hn
  grind
theorem at_y {z0 z1 : Int} (z2 : Int) (h : ¬ (z0 = 0 ∧ z1 = 0)) (q : Rat) : (((z2 * (z1 * (q.den : Int)) - z0 * -((z1 * z1 + -z0 * -z0 + 0 * 0) * q.num) : Int)) : Rat) / ((z0 * (-z0 * (q.den : Int)) - z1 * (z1 * (q.den : Int)) : Int) : Rat) = atY z0 z1 z2 q := by
  have hs := sqd_ne h
  have hn := num_cast q
  have hd := den_cast_ne q
  unfold atY
  simp only [Rat.intCast_sub, Rat.intCast_mul, Rat.intCast_neg, Rat.intCast_add, Rat.intCast_natCast, hn]
  rw [show ((0 : Int) : Rat) = 0 from rfl]
  generalize (q.den : Rat) = d at *
  generalize (z0 : Rat) = a at *
  generalize (z1 : Rat) = b at *
  generalize (z2 : Rat) = c at *
  have e : a * (-a * d) - b * (b * d) = -(b * b + -a * -a) * d := by grind
  rw [e]
  generalize hm : b * b + -a * -a = m at *
  rw [show (c * (b * d) - a * -((m + 0 * 0) * (q * d))) = (m * d) * (q * a) + (b * c) * d by grind]
  have hmd : -m * d ≠ 0 := by
    intro h0
    rcases Rat.mul_eq_zero.1 h0 with h1 | h1
    · exact hs (by grind)
    · exact hd h1
  clear hm e hn
  grind
/-- The parameter of the nearest point. -/
def parQ (z0 z1 : Int) (q q' : Rat) : Rat := (q * (z1 : Rat) + q' * -(z0 : Rat)) / ((z1 : Rat) * (z1 : Rat) + -(z0 : Rat) * -(z0 : Rat))
theorem par_val {z0 z1 : Int} (h : ¬ (z0 = 0 ∧ z1 = 0)) {q q' : Rat} {u v d : Int} (hh : Hom q q' u v d) : ((z1 * u + -z0 * v + 0 * d : Int) : Rat) / (((z1 * z1 + -z0 * -z0 + 0 * 0) * d : Int) : Rat) = parQ z0 z1 q q' := by
  have hs := sqd_ne h
  have hd := hom_ne hh
  rw [hom_dot hh]
  unfold parQ
  simp only [Rat.intCast_mul, Rat.intCast_neg, Rat.intCast_add]
  rw [show ((0 : Int) : Rat) = 0 from rfl]
  generalize (d : Rat) = e at *
  generalize (z0 : Rat) = a at *
  generalize (z1 : Rat) = b at *
  clear hh
  generalize hm : b * b + -a * -a = m at *
  rw [show (m + 0 * 0) * e = m * e by grind]
  have hmd : m * e ≠ 0 := by
    intro h0
    rcases Rat.mul_eq_zero.1 h0 with h1 | h1
    · exact hs h1
    · exact hd h1
  clear hm
  grind
end
end Go.Proofs.YtancgkmkbgkncaaGreat
namespace Go.Proofs.YtancgkmkbgkncaaGreat
open List (getElem_toArray getElem_cons_succ getElem_cons_zero setIfInBounds_toArray set_cons_zero set_cons_succ)
open Go.RowKit

section
variable {A0 A1 A2 A3 A4 A5 A6 A7 D0 D1 D2 D3 D4 D5 D6 D7 : Option Addr} {n0 n1 n2 n3 n4 n5 n6 n7 c0 c1 c2 c3 c4 c5 c6 c7 m0 m1 m2 m3 m4 m5 m6 m7 e0 e1 e2 e3 e4 e5 e6 e7 : Nat} {s0 s1 s2 s3 s4 s5 s6 s7 : Bool} {q0 q1 q2 q3 q4 q5 q6 q7 : Rat} {z z' z0 z1 : Int} {L L0 L1 x x0 x1 y : Nat} {k : Int} {b : Bool} {w : World}
set_option maxRecDepth 100000 in
set_option maxHeartbeats 4000000 in
theorem padd_v (h : RQ w s0 (.slice A0 n0 c0) (.slice D0 m0 e0) q0 L) (h' : RQ w s1 (.slice A1 n1 c1) (.slice D1 m1 e1) q1 L) (k1 : RQ w s2 (.slice A2 n2 c2) (.slice D2 m2 e2) q2 L0) (k1' : RQ w s3 (.slice A3 n3 c3) (.slice D3 m3 e3) q3 L0) (hL : L ≤ 100000) (hL0 : L0 ≤ 100000) :
    Calls Tryz.prog 53 #[.agg #[.bool s0, .slice A0 n0 c0, .slice D0 m0 e0, .bool s1, .slice A1 n1 c1, .slice D1 m1 e1], .agg #[.bool s2, .slice A2 n2 c2, .slice D2 m2 e2, .bool s3, .slice A3 n3 c3, .slice D3 m3 e3]] w fun e w' => ∃ s4 A4 n4 c4 D4 m4 e4 s5 A5 n5 c5 D5 m5 e5, e = .returned (.agg #[.bool s4, .slice A4 n4 c4, .slice D4 m4 e4, .bool s5, .slice A5 n5 c5, .slice D5 m5 e5]) ∧ NQ w' s4 (.slice A4 n4 c4) (.slice D4 m4 e4) (q0 + q2) (max L 2 + max L0 2 + 1) ∧ NQ w' s5 (.slice A5 n5 c5) (.slice D5 m5 e5) (q1 + q3) (max L 2 + max L0 2 + 1) ∧ Below w.heap.size w w' := by
  go_enter Tryz.func53, Tryz.ntmps53
  go_wp2_with fail
  obtain ⟨W0, hW, b0, b1, b9, hbW, hszW0⟩ := boxes3 w #[.bool s0, .slice A0 n0 c0, .slice D0 m0 e0, .bool s1, .slice A1 n1 c1, .slice D1 m1 e1] #[.bool s2, .slice A2 n2 c2, .slice D2 m2 e2, .bool s3, .slice A3 n3 c3, .slice D3 m3 e3] #[.bool false, .slice none 0 0, .slice none 0 0, .bool false, .slice none 0 0, .slice none 0 0] 54 54 54
  rw [hW]
  clear hW
  replace h := h.below hbW
  replace h' := h'.below hbW
  replace k1 := k1.below hbW
  replace k1' := k1'.below hbW
  have H0 := hbW
  clear hbW
  have hD := drawn_below W0
  replace h := h.below hD
  replace h' := h'.below hD
  replace k1 := k1.below hD
  replace k1' := k1'.below hD
  replace b0 := b0.below hD
  replace b1 := b1.below hD
  replace b9 := b9.below hD
  replace H0 := H0.trans (hD.mono H0.size)
  clear hD
  refine wp_region_noPanic ?_
  refine wp_region_held_drew (S := (fun V => V.cell? ⟨w.heap.size, 0, none⟩ = some (.bool s0) ∧ V.cell? ⟨w.heap.size, 1, none⟩ = some (.slice A0 n0 c0) ∧ V.cell? ⟨w.heap.size, 2, none⟩ = some (.slice D0 m0 e0) ∧ V.cell? ⟨w.heap.size, 3, none⟩ = some (.bool s1) ∧ V.cell? ⟨w.heap.size, 4, none⟩ = some (.slice A1 n1 c1) ∧ V.cell? ⟨w.heap.size, 5, none⟩ = some (.slice D1 m1 e1) ∧ V.cell? ⟨w.heap.size + 1, 0, none⟩ = some (.bool s2) ∧ V.cell? ⟨w.heap.size + 1, 1, none⟩ = some (.slice A2 n2 c2) ∧ V.cell? ⟨w.heap.size + 1, 2, none⟩ = some (.slice D2 m2 e2) ∧ V.cell? ⟨w.heap.size + 1, 3, none⟩ = some (.bool s3) ∧ V.cell? ⟨w.heap.size + 1, 4, none⟩ = some (.slice A3 n3 c3) ∧ V.cell? ⟨w.heap.size + 1, 5, none⟩ = some (.slice D3 m3 e3))) (by kernel_rfl) (b0.and6 (b1.all6)) (fun hHeld => ?_)
  generalize W0.drew = v1 at H0 hHeld h h' k1 k1' b0 b1 b9 ⊢
  refine tk 0 ?_ rfl (by kernel_rfl) (by kernel_rfl) (by kernel_rfl) (fun _ _ _ h => h) (by rfl) ?_ (by assumption) ?_
  rotate_left
  · (intro w hSw; (try dsimp only at hSw); go_simp; (try with_reducible rfl))
  (try simp only [getElem_toArray, getElem_cons_zero, Act.put, setIfInBounds_toArray, set_cons_zero, set_cons_succ])
  refine tk 2 ?_ rfl (by kernel_rfl) (by kernel_rfl) (by kernel_rfl) (fun _ _ _ h => h) (by rfl) ?_ (by assumption) ?_
  rotate_left
  · (intro w hSw; (try dsimp only at hSw); go_simp; (try with_reducible rfl))
  (try simp only [getElem_toArray, getElem_cons_succ, getElem_cons_zero, Act.put, setIfInBounds_toArray, set_cons_zero, set_cons_succ])
  refine tk 5 ?_ rfl (by kernel_rfl) (by kernel_rfl) (by kernel_rfl) (fun _ _ _ h => h) (by rfl) ?_ (by assumption) ?_
  rotate_left
  · (intro w hSw; (try dsimp only at hSw); go_simp; (try with_reducible rfl))
  (try simp only [getElem_toArray, getElem_cons_succ, getElem_cons_zero, Act.put, setIfInBounds_toArray, set_cons_zero, set_cons_succ])
  refine tk 7 ?_ rfl (by kernel_rfl) (by kernel_rfl) (by kernel_rfl) (fun _ _ _ h => h) (by rfl) ?_ (by assumption) ?_
  rotate_left
  · (intro w hSw; (try dsimp only at hSw); go_simp; (try with_reducible rfl))
  (try simp only [getElem_toArray, getElem_cons_succ, getElem_cons_zero, Act.put, setIfInBounds_toArray, set_cons_zero, set_cons_succ])
  refine tk 1 ?_ rfl (by kernel_rfl) (by kernel_rfl) (by kernel_rfl) (fun _ _ _ h => h) (by rfl) ?_ (by assumption) ?_
  rotate_left
  · (intro w hSw; (try dsimp only at hSw); go_simp; (try with_reducible rfl))
  (try simp only [getElem_toArray, getElem_cons_succ, getElem_cons_zero, Act.put, setIfInBounds_toArray, set_cons_zero, set_cons_succ])
  refine tk 3 ?_ rfl (by kernel_rfl) (by kernel_rfl) (by kernel_rfl) (fun _ _ _ h => h) (by rfl) ?_ (by assumption) ?_
  rotate_left
  · (intro w hSw; (try dsimp only at hSw); go_simp; (try with_reducible rfl))
  (try simp only [getElem_toArray, getElem_cons_succ, getElem_cons_zero, Act.put, setIfInBounds_toArray, set_cons_zero, set_cons_succ])
  refine tk 6 ?_ rfl (by kernel_rfl) (by kernel_rfl) (by kernel_rfl) (fun _ _ _ h => h) (by rfl) ?_ (by assumption) ?_
  rotate_left
  · (intro w hSw; (try dsimp only at hSw); go_simp; (try with_reducible rfl))
  (try simp only [getElem_toArray, getElem_cons_succ, getElem_cons_zero, Act.put, setIfInBounds_toArray, set_cons_zero, set_cons_succ])
  refine tk 8 ?_ rfl (by kernel_rfl) (by kernel_rfl) (by kernel_rfl) (fun _ _ _ h => h) (by rfl) ?_ (by assumption) ?_
  rotate_left
  · (intro w hSw; (try dsimp only at hSw); go_simp; (try with_reducible rfl))
  (try simp only [getElem_toArray, getElem_cons_succ, getElem_cons_zero, Act.put, setIfInBounds_toArray, set_cons_zero, set_cons_succ])
  refine rd1 4 (by kernel_rfl) rfl (fun K hK => ?_)
  go_simp
  go_at_call 107
  refine (radd_v h k1 hL hL0).mono ?_
  rintro e w2 ⟨s4, A4, n4, c4, D4, m4, e4, rfl, g4, hb⟩
  replace h := h.below hb
  replace h' := h'.below hb
  replace k1 := k1.below hb
  replace k1' := k1'.below hb
  replace b0 := b0.below hb
  replace b1 := b1.below hb
  replace b9 := b9.below hb
  replace H0 := H0.trans (hb.mono H0.size)
  clear hb
  go_wp2_with fail
  refine hK.out _ _ (b0.and6 (b1.all6)) (fun hHeld => ?_)
  clear hK K
  (try simp only [getElem_toArray, getElem_cons_succ, getElem_cons_zero, Act.put, setIfInBounds_toArray, set_cons_zero, set_cons_succ])
  refine rd1 9 (by kernel_rfl) rfl (fun K hK => ?_)
  go_simp
  go_at_call 107
  refine (radd_v h' k1' hL hL0).mono ?_
  rintro e w3 ⟨s5, A5, n5, c5, D5, m5, e5, rfl, g5, hb⟩
  replace h := h.below hb
  replace h' := h'.below hb
  replace k1 := k1.below hb
  replace k1' := k1'.below hb
  replace g4 := g4.below hb
  replace b0 := b0.below hb
  replace b1 := b1.below hb
  replace b9 := b9.below hb
  replace H0 := H0.trans (hb.mono H0.size)
  clear hb
  go_wp2_with fail
  refine hK.out _ _ (b0.and6 (b1.all6)) (fun hHeld => ?_)
  clear hK K
  (try simp only [getElem_toArray, getElem_cons_succ, getElem_cons_zero, Act.put, setIfInBounds_toArray, set_cons_zero, set_cons_succ])
  refine tk 10 ?_ rfl (by kernel_rfl) (by kernel_rfl) (by kernel_rfl) (fun _ _ _ h => h) (by rfl) ?_ (by assumption) ?_
  rotate_left
  · (intro w hSw; (try dsimp only at hSw); go_simp; (try with_reducible rfl))
  (try simp only [getElem_toArray, getElem_cons_succ, getElem_cons_zero, Act.put, setIfInBounds_toArray, set_cons_zero, set_cons_succ])
  obtain ⟨cb90, yb90, cb91, yb91, cb92, yb92, cb93, yb93, cb94, yb94, cb95, yb95⟩ := b9.cf6
  refine rd1 11 (by kernel_rfl) rfl (fun K hK => ?_)
  go_simp
  clear cb90 yb90 cb91 yb91 cb92 yb92 cb93 yb93 cb94 yb94 cb95 yb95
  have hg := only_store6 w3 (w.heap.size + 1 + 1) (.bool s4) (.slice A4 n4 c4) (.slice D4 m4 e4) (.bool s5) (.slice A5 n5 c5) (.slice D5 m5 e5)
  have hB := b9.stored6 (.bool s4) (.slice A4 n4 c4) (.slice D4 m4 e4) (.bool s5) (.slice A5 n5 c5) (.slice D5 m5 e5)
  generalize hX : ((((((w3.setCell ⟨w.heap.size + 1 + 1, 0, none⟩ (.bool s4)).setCell ⟨w.heap.size + 1 + 1, 1, none⟩ (.slice A4 n4 c4)).setCell ⟨w.heap.size + 1 + 1, 2, none⟩ (.slice D4 m4 e4)).setCell ⟨w.heap.size + 1 + 1, 3, none⟩ (.bool s5)).setCell ⟨w.heap.size + 1 + 1, 4, none⟩ (.slice A5 n5 c5)).setCell ⟨w.heap.size + 1 + 1, 5, none⟩ (.slice D5 m5 e5)) = X4 at hg hB ⊢
  clear hX
  replace h := h.kept b9 (by simp [notInt]) hg
  replace h' := h'.kept b9 (by simp [notInt]) hg
  replace k1 := k1.kept b9 (by simp [notInt]) hg
  replace k1' := k1'.kept b9 (by simp [notInt]) hg
  replace g4 := g4.kept b9 (by simp [notInt]) hg
  replace g5 := g5.kept b9 (by simp [notInt]) hg
  replace b0 := b0.other hg (by omega)
  replace b1 := b1.other hg (by omega)
  replace b9 := hB
  replace H0 := below_only H0 hg (by omega) H0.size
  clear hg hB
  refine hK.out _ _ (b0.and6 (b1.all6)) (fun hHeld => ?_)
  clear hK K
  (try simp only [getElem_toArray, getElem_cons_succ, getElem_cons_zero, Act.put, setIfInBounds_toArray, set_cons_zero, set_cons_succ])
  refine wpAnyH_done (by kernel_rfl) ?_ _
  refine NoPanic.normal ?_
  go_wp2_with fail
  refine bodyPost_ret (ret_point rfl rfl b9) rfl ?_
  exact ⟨s4, A4, n4, c4, D4, m4, e4, s5, A5, n5, c5, D5, m5, e5, rfl, g4, g5, H0⟩
end
end Go.Proofs.YtancgkmkbgkncaaGreat
namespace Go.Proofs.YtancgkmkbgkncaaGreat
open List (getElem_toArray getElem_cons_succ getElem_cons_zero setIfInBounds_toArray set_cons_zero set_cons_succ)
open Go.RowKit

section
variable {A0 A1 A2 A3 A4 A5 A6 A7 D0 D1 D2 D3 D4 D5 D6 D7 : Option Addr} {n0 n1 n2 n3 n4 n5 n6 n7 c0 c1 c2 c3 c4 c5 c6 c7 m0 m1 m2 m3 m4 m5 m6 m7 e0 e1 e2 e3 e4 e5 e6 e7 : Nat} {s0 s1 s2 s3 s4 s5 s6 s7 : Bool} {q0 q1 q2 q3 q4 q5 q6 q7 : Rat} {z z' z0 z1 : Int} {L L0 L1 x x0 x1 y : Nat} {k : Int} {b : Bool} {w : World}
set_option maxRecDepth 100000 in
set_option maxHeartbeats 4000000 in
theorem npart_v {d : Nat} (z : Int) (h0 : -9223372036854775808 ≤ z) (h1 : z ≤ 9223372036854775807) (hd : d = 2 ∨ d = 3 ∨ d = 4) :
    Calls Tryz.prog 77 #[.int .i64 z, .int .i64 (d : Int)] w fun e w' => ∃ s3 A3 n3 c3 D3 m3 e3, e = .returned (.agg #[.bool s3, .slice A3 n3 c3, .slice D3 m3 e3]) ∧ PQ w' s3 (.slice A3 n3 c3) (.slice D3 m3 e3) (mkRat z d) (2) ∧ Below w.heap.size w w' := by
  rcases hd with rfl | rfl | rfl
  · skip
    go_enter Tryz.func77, Tryz.ntmps77
    go_wp2_with fail
    obtain ⟨W0, hW, b0, hbW, hszW0⟩ := boxes1 w #[.bool false, .slice none 0 0, .slice none 0 0] 46
    rw [hW]
    clear hW
    have H0 := hbW
    clear hbW
    refine (nint_v z h0 h1 _).mono ?_
    rintro e w1 ⟨s1, A1, n1, c1, rfl, g1, hb⟩
    replace b0 := b0.below hb
    replace H0 := H0.trans (hb.mono H0.size)
    clear hb
    go_wp2_with fail
    refine (word_v 2 (by decide) _).mono ?_
    rintro e w2 ⟨A2, n2, c2, rfl, g2, hb⟩
    replace g1 := g1.below hb
    replace b0 := b0.below hb
    replace H0 := H0.trans (hb.mono H0.size)
    clear hb
    go_wp2_with fail
    refine (nfrac_v g1 g2 (by decide) (by decide)).mono ?_
    rintro e w3 ⟨s3, A3, n3, c3, D3, m3, e3, rfl, g3, hb⟩
    replace g1 := g1.below hb
    replace g2 := g2.below hb
    replace b0 := b0.below hb
    replace H0 := H0.trans (hb.mono H0.size)
    clear hb
    clear g1
    clear g2
    obtain ⟨cb00, yb00, cb01, yb01, cb02, yb02⟩ := b0.cf3
    go_wp2_with fail
    clear cb00 yb00 cb01 yb01 cb02 yb02
    have hg := only_store3 w3 (w.heap.size) (.bool s3) (.slice A3 n3 c3) (.slice D3 m3 e3)
    have hB := b0.stored3 (.bool s3) (.slice A3 n3 c3) (.slice D3 m3 e3)
    generalize hX : (((w3.setCell ⟨w.heap.size, 0, none⟩ (.bool s3)).setCell ⟨w.heap.size, 1, none⟩ (.slice A3 n3 c3)).setCell ⟨w.heap.size, 2, none⟩ (.slice D3 m3 e3)) = X4 at hg hB ⊢
    clear hX
    replace g3 := g3.kept b0 (by simp [notInt]) hg
    replace b0 := hB
    replace H0 := below_only H0 hg (by omega) H0.size
    clear hg hB
    refine bodyPost_ret (ret_numq rfl rfl b0) rfl ?_
    exact ⟨s3, A3, n3, c3, D3, m3, e3, rfl, g3, H0⟩
  · skip
    go_enter Tryz.func77, Tryz.ntmps77
    go_wp2_with fail
    obtain ⟨W0, hW, b0, hbW, hszW0⟩ := boxes1 w #[.bool false, .slice none 0 0, .slice none 0 0] 46
    rw [hW]
    clear hW
    have H0 := hbW
    clear hbW
    refine (nint_v z h0 h1 _).mono ?_
    rintro e w1 ⟨s1, A1, n1, c1, rfl, g1, hb⟩
    replace b0 := b0.below hb
    replace H0 := H0.trans (hb.mono H0.size)
    clear hb
    go_wp2_with fail
    refine (word_v 3 (by decide) _).mono ?_
    rintro e w2 ⟨A2, n2, c2, rfl, g2, hb⟩
    replace g1 := g1.below hb
    replace b0 := b0.below hb
    replace H0 := H0.trans (hb.mono H0.size)
    clear hb
    go_wp2_with fail
    refine (nfrac_v g1 g2 (by decide) (by decide)).mono ?_
    rintro e w3 ⟨s3, A3, n3, c3, D3, m3, e3, rfl, g3, hb⟩
    replace g1 := g1.below hb
    replace g2 := g2.below hb
    replace b0 := b0.below hb
    replace H0 := H0.trans (hb.mono H0.size)
    clear hb
    clear g1
    clear g2
    obtain ⟨cb00, yb00, cb01, yb01, cb02, yb02⟩ := b0.cf3
    go_wp2_with fail
    clear cb00 yb00 cb01 yb01 cb02 yb02
    have hg := only_store3 w3 (w.heap.size) (.bool s3) (.slice A3 n3 c3) (.slice D3 m3 e3)
    have hB := b0.stored3 (.bool s3) (.slice A3 n3 c3) (.slice D3 m3 e3)
    generalize hX : (((w3.setCell ⟨w.heap.size, 0, none⟩ (.bool s3)).setCell ⟨w.heap.size, 1, none⟩ (.slice A3 n3 c3)).setCell ⟨w.heap.size, 2, none⟩ (.slice D3 m3 e3)) = X4 at hg hB ⊢
    clear hX
    replace g3 := g3.kept b0 (by simp [notInt]) hg
    replace b0 := hB
    replace H0 := below_only H0 hg (by omega) H0.size
    clear hg hB
    refine bodyPost_ret (ret_numq rfl rfl b0) rfl ?_
    exact ⟨s3, A3, n3, c3, D3, m3, e3, rfl, g3, H0⟩
  · skip
    go_enter Tryz.func77, Tryz.ntmps77
    go_wp2_with fail
    obtain ⟨W0, hW, b0, hbW, hszW0⟩ := boxes1 w #[.bool false, .slice none 0 0, .slice none 0 0] 46
    rw [hW]
    clear hW
    have H0 := hbW
    clear hbW
    refine (nint_v z h0 h1 _).mono ?_
    rintro e w1 ⟨s1, A1, n1, c1, rfl, g1, hb⟩
    replace b0 := b0.below hb
    replace H0 := H0.trans (hb.mono H0.size)
    clear hb
    go_wp2_with fail
    refine (word_v 4 (by decide) _).mono ?_
    rintro e w2 ⟨A2, n2, c2, rfl, g2, hb⟩
    replace g1 := g1.below hb
    replace b0 := b0.below hb
    replace H0 := H0.trans (hb.mono H0.size)
    clear hb
    go_wp2_with fail
    refine (nfrac_v g1 g2 (by decide) (by decide)).mono ?_
    rintro e w3 ⟨s3, A3, n3, c3, D3, m3, e3, rfl, g3, hb⟩
    replace g1 := g1.below hb
    replace g2 := g2.below hb
    replace b0 := b0.below hb
    replace H0 := H0.trans (hb.mono H0.size)
    clear hb
    clear g1
    clear g2
    obtain ⟨cb00, yb00, cb01, yb01, cb02, yb02⟩ := b0.cf3
    go_wp2_with fail
    clear cb00 yb00 cb01 yb01 cb02 yb02
    have hg := only_store3 w3 (w.heap.size) (.bool s3) (.slice A3 n3 c3) (.slice D3 m3 e3)
    have hB := b0.stored3 (.bool s3) (.slice A3 n3 c3) (.slice D3 m3 e3)
    generalize hX : (((w3.setCell ⟨w.heap.size, 0, none⟩ (.bool s3)).setCell ⟨w.heap.size, 1, none⟩ (.slice A3 n3 c3)).setCell ⟨w.heap.size, 2, none⟩ (.slice D3 m3 e3)) = X4 at hg hB ⊢
    clear hX
    replace g3 := g3.kept b0 (by simp [notInt]) hg
    replace b0 := hB
    replace H0 := below_only H0 hg (by omega) H0.size
    clear hg hB
    refine bodyPost_ret (ret_numq rfl rfl b0) rfl ?_
    exact ⟨s3, A3, n3, c3, D3, m3, e3, rfl, g3, H0⟩
theorem wrap2 {r : Nat} (hr : r < 9) : IntKind.i64.wrap (2 * ((r : Int) - 4)) = 2 * ((r : Int) - 4) := by simp [IntKind.wrap, IntKind.bits, IntKind.signed]; omega
theorem wrap21 {r : Nat} (hr : r < 9) : IntKind.i64.wrap (2 * ((r : Int) - 4) + 1) = 2 * ((r : Int) - 4) + 1 := by simp [IntKind.wrap, IntKind.bits, IntKind.signed]; omega
theorem wrap3 {r : Nat} (hr : r < 9) : IntKind.i64.wrap (3 * ((r : Int) - 4)) = 3 * ((r : Int) - 4) := by simp [IntKind.wrap, IntKind.bits, IntKind.signed]; omega
theorem wrap31 {r : Nat} (hr : r < 9) : IntKind.i64.wrap (3 * ((r : Int) - 4) + 1) = 3 * ((r : Int) - 4) + 1 := by simp [IntKind.wrap, IntKind.bits, IntKind.signed]; omega
set_option maxRecDepth 100000 in
set_option maxHeartbeats 4000000 in
theorem tq_v {b : Nat} (hT : Tape w b) (hb : b < w.heap.size) :
    Calls Tryz.prog 22 #[.pointer (some ⟨b, 0, none⟩)] w fun e w' => ∃ q, ∃ s1 A1 n1 c1 D1 m1 e1, e = .returned (.agg #[.bool s1, .slice A1 n1 c1, .slice D1 m1 e1]) ∧ PQ w' s1 (.slice A1 n1 c1) (.slice D1 m1 e1) q (2) ∧ Tape w' b ∧ w.grownBy w' (some b) := by
  go_enter Tryz.func22, Tryz.ntmps22
  go_wp2_with fail
  have G0 : w.grownBy w (some b) := ⟨rfl, rfl, rfl, Nat.le_refl _, fun _ _ _ => rfl⟩
  have hlt := hb
  obtain ⟨W0, hW, b0, hbW, hszW0⟩ := boxes1 w #[.bool false, .slice none 0 0, .slice none 0 0] 46
  rw [hW]
  clear hW
  replace hT := hT.keep hbW hlt
  replace hlt := Nat.lt_of_lt_of_le hlt hbW.size
  replace G0 := only_below G0 hbW G0.size
  clear hbW
  refine (next_any 9 (by omega) (by omega) hT).mono ?_
  rintro e w1 ⟨r, rfl, hr, hT', hg⟩
  replace b0 := b0.other hg (by omega)
  replace hlt := Nat.lt_of_lt_of_le hlt hg.size
  replace G0 := only_trans G0 hg
  clear hT
  have hT := hT'
  clear hT' hg
  have wr := wrap4 hr
  go_wp2_with fail
  refine (next_any 6 (by omega) (by omega) hT).mono ?_
  rintro e w2 ⟨r1, rfl, hr1, hT', hg⟩
  replace b0 := b0.other hg (by omega)
  replace hlt := Nat.lt_of_lt_of_le hlt hg.size
  replace G0 := only_trans G0 hg
  clear hT
  have hT := hT'
  clear hT' hg
  rcases Decidable.em (r1 = 0) with h1 | h1
  · skip
    subst h1
    have wr2 := wrap2 hr
    have wr3 := wrap21 hr
    go_wp2_with fail
    refine (npart_v (d := 2) (2 * ((r : Int) - 4) + 1) (by omega) (by omega) (by omega)).mono ?_
    rintro e w3 ⟨s1, A1, n1, c1, D1, m1, e1, rfl, g1, hb⟩
    replace b0 := b0.below hb
    replace hT := hT.keep hb hlt
    replace hlt := Nat.lt_of_lt_of_le hlt hb.size
    replace G0 := only_below G0 hb G0.size
    clear hb
    obtain ⟨cb00, yb00, cb01, yb01, cb02, yb02⟩ := b0.cf3
    go_wp2_with fail
    clear cb00 yb00 cb01 yb01 cb02 yb02
    have hg := only_store3 w3 (w.heap.size) (.bool s1) (.slice A1 n1 c1) (.slice D1 m1 e1)
    have hB := b0.stored3 (.bool s1) (.slice A1 n1 c1) (.slice D1 m1 e1)
    generalize hX : (((w3.setCell ⟨w.heap.size, 0, none⟩ (.bool s1)).setCell ⟨w.heap.size, 1, none⟩ (.slice A1 n1 c1)).setCell ⟨w.heap.size, 2, none⟩ (.slice D1 m1 e1)) = X4 at hg hB ⊢
    clear hX
    replace g1 := g1.kept b0 (by simp [notInt]) hg
    replace b0 := hB
    have hBs := below_only (Below.refl w.heap.size w3) hg (by omega) G0.size
    replace hT := hT.keep hBs hb
    replace G0 := only_below G0 hBs (Nat.le_refl _)
    replace hlt := Nat.lt_of_lt_of_le hlt hg.size
    clear hg hB hBs
    refine bodyPost_ret (ret_numq rfl rfl b0) rfl ?_
    exact ⟨_, s1, A1, n1, c1, D1, m1, e1, rfl, g1, hT, G0⟩
  · skip
    have hr0 : ((r1 : Int) == 0) = false := by rw [beq_eq_false_iff_ne]; omega
    rcases Decidable.em (r1 = 1) with h2 | h2
    · skip
      subst h2
      have wr2 := wrap3 hr
      have wr3 := wrap31 hr
      go_wp2_with fail
      refine (npart_v (d := 3) (3 * ((r : Int) - 4) + 1) (by omega) (by omega) (by omega)).mono ?_
      rintro e w3 ⟨s1, A1, n1, c1, D1, m1, e1, rfl, g1, hb⟩
      replace b0 := b0.below hb
      replace hT := hT.keep hb hlt
      replace hlt := Nat.lt_of_lt_of_le hlt hb.size
      replace G0 := only_below G0 hb G0.size
      clear hb
      obtain ⟨cb00, yb00, cb01, yb01, cb02, yb02⟩ := b0.cf3
      go_wp2_with fail
      clear cb00 yb00 cb01 yb01 cb02 yb02
      have hg := only_store3 w3 (w.heap.size) (.bool s1) (.slice A1 n1 c1) (.slice D1 m1 e1)
      have hB := b0.stored3 (.bool s1) (.slice A1 n1 c1) (.slice D1 m1 e1)
      generalize hX : (((w3.setCell ⟨w.heap.size, 0, none⟩ (.bool s1)).setCell ⟨w.heap.size, 1, none⟩ (.slice A1 n1 c1)).setCell ⟨w.heap.size, 2, none⟩ (.slice D1 m1 e1)) = X4 at hg hB ⊢
      clear hX
      replace g1 := g1.kept b0 (by simp [notInt]) hg
      replace b0 := hB
      have hBs := below_only (Below.refl w.heap.size w3) hg (by omega) G0.size
      replace hT := hT.keep hBs hb
      replace G0 := only_below G0 hBs (Nat.le_refl _)
      replace hlt := Nat.lt_of_lt_of_le hlt hg.size
      clear hg hB hBs
      refine bodyPost_ret (ret_numq rfl rfl b0) rfl ?_
      exact ⟨_, s1, A1, n1, c1, D1, m1, e1, rfl, g1, hT, G0⟩
    · skip
      have hr2 : ((r1 : Int) == 1) = false := by rw [beq_eq_false_iff_ne]; omega
      go_wp2_with fail
      refine (nof_v ((r : Int) - 4) (by omega) (by omega) _).mono ?_
      rintro e w3 ⟨s1, A1, n1, c1, D1, m1, e1, rfl, g1, hb⟩
      replace b0 := b0.below hb
      replace hT := hT.keep hb hlt
      replace hlt := Nat.lt_of_lt_of_le hlt hb.size
      replace G0 := only_below G0 hb G0.size
      clear hb
      obtain ⟨cb00, yb00, cb01, yb01, cb02, yb02⟩ := b0.cf3
      go_wp2_with fail
      clear cb00 yb00 cb01 yb01 cb02 yb02
      have hg := only_store3 w3 (w.heap.size) (.bool s1) (.slice A1 n1 c1) (.slice D1 m1 e1)
      have hB := b0.stored3 (.bool s1) (.slice A1 n1 c1) (.slice D1 m1 e1)
      generalize hX : (((w3.setCell ⟨w.heap.size, 0, none⟩ (.bool s1)).setCell ⟨w.heap.size, 1, none⟩ (.slice A1 n1 c1)).setCell ⟨w.heap.size, 2, none⟩ (.slice D1 m1 e1)) = X4 at hg hB ⊢
      clear hX
      replace g1 := g1.kept b0 (by simp [notInt]) hg
      replace b0 := hB
      have hBs := below_only (Below.refl w.heap.size w3) hg (by omega) G0.size
      replace hT := hT.keep hBs hb
      replace G0 := only_below G0 hBs (Nat.le_refl _)
      replace hlt := Nat.lt_of_lt_of_le hlt hg.size
      clear hg hB hBs
      refine bodyPost_ret (ret_numq rfl rfl b0) rfl ?_
      exact ⟨_, s1, A1, n1, c1, D1, m1, e1, rfl, g1, hT, G0⟩
end
end Go.Proofs.YtancgkmkbgkncaaGreat
namespace Go.Proofs.YtancgkmkbgkncaaGreat
open List (getElem_toArray getElem_cons_succ getElem_cons_zero setIfInBounds_toArray set_cons_zero set_cons_succ)
open Go.RowKit

section
variable {A0 A1 A2 A3 A4 A5 A6 A7 A8 A9 A10 A11 A12 A13 A14 A15 A16 A17 A20 A21 D0 D1 D2 D3 D4 D5 D6 D7 D13 D15 D16 D17 D20 D21 : Option Addr} {n0 n1 n2 n3 n4 n5 n6 n7 n8 n9 n10 n11 n12 n13 n14 n15 n16 n17 n20 n21 c0 c1 c2 c3 c4 c5 c6 c7 c8 c9 c10 c11 c12 c13 c14 c15 c16 c17 c20 c21 m0 m1 m2 m3 m4 m5 m6 m7 m13 m15 m16 m17 m20 m21 e0 e1 e2 e3 e4 e5 e6 e7 e13 e15 e16 e17 e20 e21 : Nat} {s0 s1 s2 s3 s4 s5 s6 s7 s8 s9 s10 s11 s12 s13 s14 s15 s16 s17 s20 s21 : Bool} {q0 q1 q2 q3 q4 q5 q6 q7 : Rat} {z0 z1 z2 z3 z4 z5 z6 z7 z8 z9 z10 z11 : Int} {L L0 L1 x y : Nat} {k : Int} {b : Bool} {w : World}
set_option maxRecDepth 100000 in
set_option maxHeartbeats 4000000 in
theorem lprim_z (h0 : RI w s0 (.slice A0 n0 c0) z0 L) (h1 : RI w s1 (.slice A1 n1 c1) z1 L) (hz : z0 = 0 ∧ z1 = 0) :
    Calls Tryz.prog 60 #[.agg #[.bool s0, .slice A0 n0 c0, .bool s1, .slice A1 n1 c1, .bool s2, .slice A2 n2 c2]] w fun e w' => e = .returned (.tuple #[.agg #[.bool false, .slice none 0 0, .bool false, .slice none 0 0, .bool false, .slice none 0 0], .bool false]) ∧ Below w.heap.size w w' := by
  have HK : Hid ((decide (z0 = 0) && decide (z1 = 0)) = true) := Lib.hid (by rw [hz.1, hz.2]; rfl)
  clear hz
  go_enter Tryz.func60, Tryz.ntmps60
  go_wp2_with fail
  obtain ⟨W0, hW, b0, b9, hbW, hszW0⟩ := boxes2 w #[.bool s0, .slice A0 n0 c0, .bool s1, .slice A1 n1 c1, .bool s2, .slice A2 n2 c2] #[.bool false, .slice none 0 0, .bool false, .slice none 0 0, .bool false, .slice none 0 0] 95 30
  rw [hW]
  clear hW
  replace h0 := h0.below hbW
  replace h1 := h1.below hbW
  have H0 := hbW
  clear hbW
  obtain ⟨cb00, cb01, cb02, cb03, cb04, cb05⟩ := b0.cells6
  go_wp2_with fail
  clear cb00 cb01 cb02 cb03 cb04 cb05
  refine (ldegen_v h0 h1 HK.out).mono ?_
  rintro e w1 ⟨rfl, hb⟩
  replace h0 := h0.below hb
  replace h1 := h1.below hb
  replace b0 := b0.below hb
  replace b9 := b9.below hb
  replace H0 := H0.trans (hb.mono H0.size)
  clear hb
  obtain ⟨cb90, yb90, cb91, yb91, cb92, yb92, cb93, yb93, cb94, yb94, cb95, yb95⟩ := b9.cf6
  go_wp2_with fail
  clear cb90 yb90 cb91 yb91 cb92 yb92 cb93 yb93 cb94 yb94 cb95 yb95
  have hg := only_store6 w1 (w.heap.size + 1) (.bool false) (.slice none 0 0) (.bool false) (.slice none 0 0) (.bool false) (.slice none 0 0)
  have hB := b9.stored6 (.bool false) (.slice none 0 0) (.bool false) (.slice none 0 0) (.bool false) (.slice none 0 0)
  generalize hX : ((((((w1.setCell ⟨w.heap.size + 1, 0, none⟩ (.bool false)).setCell ⟨w.heap.size + 1, 1, none⟩ (.slice none 0 0)).setCell ⟨w.heap.size + 1, 2, none⟩ (.bool false)).setCell ⟨w.heap.size + 1, 3, none⟩ (.slice none 0 0)).setCell ⟨w.heap.size + 1, 4, none⟩ (.bool false)).setCell ⟨w.heap.size + 1, 5, none⟩ (.slice none 0 0)) = X2 at hg hB ⊢
  clear hX
  replace h0 := h0.kept b9 (by simp [notInt]) hg
  replace h1 := h1.kept b9 (by simp [notInt]) hg
  replace b0 := b0.other hg (by omega)
  replace b9 := hB
  replace H0 := below_only H0 hg (by omega) H0.size
  clear hg hB
  refine bodyPost_ret (ret_linep_b rfl rfl b9) rfl ?_
  exact ⟨rfl, H0⟩
end
end Go.Proofs.YtancgkmkbgkncaaGreat
namespace Go.Proofs.YtancgkmkbgkncaaGreat
open List (getElem_toArray getElem_cons_succ getElem_cons_zero setIfInBounds_toArray set_cons_zero set_cons_succ)
open Go.RowKit

section
variable {A0 A1 A2 A3 A4 A5 A6 A7 A8 A9 A10 A11 A12 A13 A14 A15 A16 A17 A20 A21 D0 D1 D2 D3 D4 D5 D6 D7 D13 D15 D16 D17 D20 D21 : Option Addr} {n0 n1 n2 n3 n4 n5 n6 n7 n8 n9 n10 n11 n12 n13 n14 n15 n16 n17 n20 n21 c0 c1 c2 c3 c4 c5 c6 c7 c8 c9 c10 c11 c12 c13 c14 c15 c16 c17 c20 c21 m0 m1 m2 m3 m4 m5 m6 m7 m13 m15 m16 m17 m20 m21 e0 e1 e2 e3 e4 e5 e6 e7 e13 e15 e16 e17 e20 e21 : Nat} {s0 s1 s2 s3 s4 s5 s6 s7 s8 s9 s10 s11 s12 s13 s14 s15 s16 s17 s20 s21 : Bool} {q0 q1 q2 q3 q4 q5 q6 q7 : Rat} {z0 z1 z2 z3 z4 z5 z6 z7 z8 z9 z10 z11 : Int} {L L0 L1 x y : Nat} {k : Int} {b : Bool} {w : World}
set_option maxRecDepth 100000 in
set_option maxHeartbeats 4000000 in
theorem lthrough_z (h : NQ w s0 (.slice A0 n0 c0) (.slice D0 m0 e0) q0 L) (h' : NQ w s1 (.slice A1 n1 c1) (.slice D1 m1 e1) q1 L) (k : NQ w s2 (.slice A2 n2 c2) (.slice D2 m2 e2) q2 L) (k' : NQ w s3 (.slice A3 n3 c3) (.slice D3 m3 e3) q3 L) (hz : q0 = q2 ∧ q1 = q3) (hL : L ≤ 10000) :
    Calls Tryz.prog 18 #[.agg #[.bool s0, .slice A0 n0 c0, .slice D0 m0 e0, .bool s1, .slice A1 n1 c1, .slice D1 m1 e1], .agg #[.bool s2, .slice A2 n2 c2, .slice D2 m2 e2, .bool s3, .slice A3 n3 c3, .slice D3 m3 e3]] w fun e w' => e = .returned (.tuple #[.agg #[.bool false, .slice none 0 0, .bool false, .slice none 0 0, .bool false, .slice none 0 0], .bool false]) ∧ Below w.heap.size w w' := by
  have HZ := Lib.hid hz
  clear hz
  go_enter Tryz.func18, Tryz.ntmps18
  go_wp2_with fail
  obtain ⟨W0, hW, b0, b1, b9, hbW, hszW0⟩ := boxes3 w #[.bool s0, .slice A0 n0 c0, .slice D0 m0 e0, .bool s1, .slice A1 n1 c1, .slice D1 m1 e1] #[.bool s2, .slice A2 n2 c2, .slice D2 m2 e2, .bool s3, .slice A3 n3 c3, .slice D3 m3 e3] #[.bool false, .slice none 0 0, .bool false, .slice none 0 0, .bool false, .slice none 0 0] 54 54 30
  rw [hW]
  clear hW
  replace h := h.below hbW
  replace h' := h'.below hbW
  replace k := k.below hbW
  replace k' := k'.below hbW
  have H0 := hbW
  clear hbW
  have hD := drawn_below W0
  replace h := h.below hD
  replace h' := h'.below hD
  replace k := k.below hD
  replace k' := k'.below hD
  replace b0 := b0.below hD
  replace b1 := b1.below hD
  replace b9 := b9.below hD
  replace H0 := H0.trans (hD.mono H0.size)
  clear hD
  refine wp_region_noPanic ?_
  refine wp_region_held_drew (S := (fun V => V.cell? ⟨w.heap.size, 0, none⟩ = some (.bool s0) ∧ V.cell? ⟨w.heap.size, 1, none⟩ = some (.slice A0 n0 c0) ∧ V.cell? ⟨w.heap.size, 2, none⟩ = some (.slice D0 m0 e0) ∧ V.cell? ⟨w.heap.size, 3, none⟩ = some (.bool s1) ∧ V.cell? ⟨w.heap.size, 4, none⟩ = some (.slice A1 n1 c1) ∧ V.cell? ⟨w.heap.size, 5, none⟩ = some (.slice D1 m1 e1) ∧ V.cell? ⟨w.heap.size + 1, 0, none⟩ = some (.bool s2) ∧ V.cell? ⟨w.heap.size + 1, 1, none⟩ = some (.slice A2 n2 c2) ∧ V.cell? ⟨w.heap.size + 1, 2, none⟩ = some (.slice D2 m2 e2) ∧ V.cell? ⟨w.heap.size + 1, 3, none⟩ = some (.bool s3) ∧ V.cell? ⟨w.heap.size + 1, 4, none⟩ = some (.slice A3 n3 c3) ∧ V.cell? ⟨w.heap.size + 1, 5, none⟩ = some (.slice D3 m3 e3))) (by kernel_rfl) (b0.and6 (b1.all6)) (fun hHeld => ?_)
  generalize W0.drew = v1 at H0 hHeld h h' k k' b0 b1 b9 ⊢
  refine tk 0 ?_ rfl (by kernel_rfl) (by kernel_rfl) (by kernel_rfl) (fun _ _ _ h => h) (by rfl) ?_ (by assumption) ?_
  rotate_left
  · (intro w hSw; (try dsimp only at hSw); go_simp; (try with_reducible rfl))
  (try simp only [getElem_toArray, getElem_cons_zero, Act.put, setIfInBounds_toArray, set_cons_zero, set_cons_succ])
  refine tk 2 ?_ rfl (by kernel_rfl) (by kernel_rfl) (by kernel_rfl) (fun _ _ _ h => h) (by rfl) ?_ (by assumption) ?_
  rotate_left
  · (intro w hSw; (try dsimp only at hSw); go_simp; (try with_reducible rfl))
  (try simp only [getElem_toArray, getElem_cons_succ, getElem_cons_zero, Act.put, setIfInBounds_toArray, set_cons_zero, set_cons_succ])
  refine rd1 1 (by kernel_rfl) rfl (fun K hK => ?_)
  go_simp
  go_at_call 67
  refine (lhomog_v h h' (by omega)).mono ?_
  rintro e w2 ⟨ua, ub, ud, s9, A9, n9, c9, s10, A10, n10, c10, s11, A11, n11, c11, rfl, g9, g10, g11, hm, hb⟩
  replace h := h.below hb
  replace h' := h'.below hb
  replace k := k.below hb
  replace k' := k'.below hb
  replace b0 := b0.below hb
  replace b1 := b1.below hb
  replace b9 := b9.below hb
  replace H0 := H0.trans (hb.mono H0.size)
  clear hb
  clear h
  clear h'
  go_wp2_with fail
  refine hK.out _ _ (b0.and6 (b1.all6)) (fun hHeld => ?_)
  clear hK K
  (try simp only [getElem_toArray, getElem_cons_succ, getElem_cons_zero, Act.put, setIfInBounds_toArray, set_cons_zero, set_cons_succ])
  refine rd1 3 (by kernel_rfl) rfl (fun K hK => ?_)
  go_simp
  go_at_call 67
  refine (lhomog_v k k' (by omega)).mono ?_
  rintro e w3 ⟨va, vb, vd, s12, A12, n12, c12, s13, A13, n13, c13, s14, A14, n14, c14, rfl, g12, g13, g14, hm', hb⟩
  replace k := k.below hb
  replace k' := k'.below hb
  replace g9 := g9.below hb
  replace g10 := g10.below hb
  replace g11 := g11.below hb
  replace b0 := b0.below hb
  replace b1 := b1.below hb
  replace b9 := b9.below hb
  replace H0 := H0.trans (hb.mono H0.size)
  clear hb
  clear k
  clear k'
  go_wp2_with fail
  refine hK.out _ _ (b0.and6 (b1.all6)) (fun hHeld => ?_)
  clear hK K
  (try simp only [getElem_toArray, getElem_cons_succ, getElem_cons_zero, Act.put, setIfInBounds_toArray, set_cons_zero, set_cons_succ])
  refine rd1 4 (by kernel_rfl) rfl (fun K hK => ?_)
  go_simp
  go_at_call 66
  refine (lcross_v g9.ri g10.ri g11.ri g12.ri g13.ri g14.ri (by omega)).mono ?_
  rintro e w4 ⟨s15, A15, n15, c15, s16, A16, n16, c16, s17, A17, n17, c17, rfl, g15, g16, g17, hb⟩
  replace g9 := g9.below hb
  replace g10 := g10.below hb
  replace g11 := g11.below hb
  replace g12 := g12.below hb
  replace g13 := g13.below hb
  replace g14 := g14.below hb
  replace b0 := b0.below hb
  replace b1 := b1.below hb
  replace b9 := b9.below hb
  replace H0 := H0.trans (hb.mono H0.size)
  clear hb
  clear g9
  clear g10
  clear g11
  clear g12
  clear g13
  clear g14
  go_wp2_with fail
  refine hK.out _ _ (b0.and6 (b1.all6)) (fun hHeld => ?_)
  clear hK K
  (try simp only [getElem_toArray, getElem_cons_succ, getElem_cons_zero, Act.put, setIfInBounds_toArray, set_cons_zero, set_cons_succ])
  refine rd1 5 (by kernel_rfl) rfl (fun K hK => ?_)
  go_simp
  go_at_call 60
  refine (lprim_z g15.ri g16.ri ((thr_zero (hom_thr hm hm')).2 HZ.out)).mono ?_
  rintro e w5 ⟨rfl, hb⟩
  replace g15 := g15.below hb
  replace g16 := g16.below hb
  replace g17 := g17.below hb
  replace b0 := b0.below hb
  replace b1 := b1.below hb
  replace b9 := b9.below hb
  replace H0 := H0.trans (hb.mono H0.size)
  clear hb
  clear g15
  clear g16
  clear g17
  go_wp2_with fail
  refine hK.out _ _ (b0.and6 (b1.all6)) (fun hHeld => ?_)
  clear hK K
  (try simp only [getElem_toArray, getElem_cons_succ, getElem_cons_zero, Act.put, setIfInBounds_toArray, set_cons_zero, set_cons_succ])
  refine tk 6 ?_ rfl (by kernel_rfl) (by kernel_rfl) (by kernel_rfl) (fun _ _ _ h => h) (by rfl) ?_ (by assumption) ?_
  rotate_left
  · (intro w hSw; (try dsimp only at hSw); go_simp; (try with_reducible rfl))
  (try simp only [getElem_toArray, getElem_cons_succ, getElem_cons_zero, Act.put, setIfInBounds_toArray, set_cons_zero, set_cons_succ])
  refine tk 7 ?_ rfl (by kernel_rfl) (by kernel_rfl) (by kernel_rfl) (fun _ _ _ h => h) (by rfl) ?_ (by assumption) ?_
  rotate_left
  · (intro w hSw; (try dsimp only at hSw); go_simp; (try with_reducible rfl))
  (try simp only [getElem_toArray, getElem_cons_succ, getElem_cons_zero, Act.put, setIfInBounds_toArray, set_cons_zero, set_cons_succ])
  obtain ⟨cb90, yb90, cb91, yb91, cb92, yb92, cb93, yb93, cb94, yb94, cb95, yb95⟩ := b9.cf6
  refine rd1 8 (by kernel_rfl) rfl (fun K hK => ?_)
  go_simp
  clear cb90 yb90 cb91 yb91 cb92 yb92 cb93 yb93 cb94 yb94 cb95 yb95
  have hg := only_store6 w5 (w.heap.size + 1 + 1) (.bool false) (.slice none 0 0) (.bool false) (.slice none 0 0) (.bool false) (.slice none 0 0)
  have hB := b9.stored6 (.bool false) (.slice none 0 0) (.bool false) (.slice none 0 0) (.bool false) (.slice none 0 0)
  generalize hX : ((((((w5.setCell ⟨w.heap.size + 1 + 1, 0, none⟩ (.bool false)).setCell ⟨w.heap.size + 1 + 1, 1, none⟩ (.slice none 0 0)).setCell ⟨w.heap.size + 1 + 1, 2, none⟩ (.bool false)).setCell ⟨w.heap.size + 1 + 1, 3, none⟩ (.slice none 0 0)).setCell ⟨w.heap.size + 1 + 1, 4, none⟩ (.bool false)).setCell ⟨w.heap.size + 1 + 1, 5, none⟩ (.slice none 0 0)) = X6 at hg hB ⊢
  clear hX
  replace b0 := b0.other hg (by omega)
  replace b1 := b1.other hg (by omega)
  replace b9 := hB
  replace H0 := below_only H0 hg (by omega) H0.size
  clear hg hB
  refine hK.out _ _ (b0.and6 (b1.all6)) (fun hHeld => ?_)
  clear hK K
  (try simp only [getElem_toArray, getElem_cons_succ, getElem_cons_zero, Act.put, setIfInBounds_toArray, set_cons_zero, set_cons_succ])
  refine tk 9 ?_ rfl (by kernel_rfl) (by kernel_rfl) (by kernel_rfl) (fun _ _ _ h => h) (by rfl) ?_ (by assumption) ?_
  rotate_left
  · (intro w hSw; (try dsimp only at hSw); go_simp; (try with_reducible rfl))
  (try simp only [getElem_toArray, getElem_cons_succ, getElem_cons_zero, Act.put, setIfInBounds_toArray, set_cons_zero, set_cons_succ])
  refine wpAnyH_done (by kernel_rfl) ?_ _
  refine NoPanic.normal ?_
  go_wp2_with fail
  refine bodyPost_ret (ret_linep_b rfl rfl b9) rfl ?_
  exact ⟨rfl, H0⟩
set_option maxRecDepth 100000 in
set_option maxHeartbeats 4000000 in
theorem lreverse_v (h0 : NI w s0 (.slice A0 n0 c0) z0 L) (h1 : NI w s1 (.slice A1 n1 c1) z1 L) (h2 : NI w s2 (.slice A2 n2 c2) z2 L) (v0 : VL z0 z1 z2) (hL : L ≤ 100000) :
    Calls Tryz.prog 54 #[.agg #[.bool s0, .slice A0 n0 c0, .bool s1, .slice A1 n1 c1, .bool s2, .slice A2 n2 c2]] w fun e w' => ∃ s3 A3 n3 c3 s4 A4 n4 c4 s5 A5 n5 c5, e = .returned (.agg #[.bool s3, .slice A3 n3 c3, .bool s4, .slice A4 n4 c4, .bool s5, .slice A5 n5 c5]) ∧ NI w' s3 (.slice A3 n3 c3) (-z0) (L) ∧ NI w' s4 (.slice A4 n4 c4) (-z1) (L) ∧ NI w' s5 (.slice A5 n5 c5) (-z2) (L) ∧ Below w.heap.size w w' := by
  have V0 := Lib.hid v0
  clear v0
  go_enter Tryz.func54, Tryz.ntmps54
  go_wp2_with fail
  obtain ⟨W0, hW, b0, b9, hbW, hszW0⟩ := boxes2 w #[.bool s0, .slice A0 n0 c0, .bool s1, .slice A1 n1 c1, .bool s2, .slice A2 n2 c2] #[.bool false, .slice none 0 0, .bool false, .slice none 0 0, .bool false, .slice none 0 0] 30 30
  rw [hW]
  clear hW
  replace h0 := h0.below hbW
  replace h1 := h1.below hbW
  replace h2 := h2.below hbW
  have H0 := hbW
  clear hbW
  obtain ⟨cb00, cb01, cb02, cb03, cb04, cb05⟩ := b0.cells6
  go_wp2_with fail
  clear cb00 cb01 cb02 cb03 cb04 cb05
  refine (lvalid_v h0 h1 h2 V0.out (by omega)).mono ?_
  rintro e w1 ⟨rfl, hb⟩
  replace h0 := h0.below hb
  replace h1 := h1.below hb
  replace h2 := h2.below hb
  replace b0 := b0.below hb
  replace b9 := b9.below hb
  replace H0 := H0.trans (hb.mono H0.size)
  clear hb
  obtain ⟨cb00, cb01, cb02, cb03, cb04, cb05⟩ := b0.cells6
  go_wp2_with fail
  clear cb00 cb01 cb02 cb03 cb04 cb05
  refine (lcoef_v).mono ?_
  rintro e w2 ⟨rfl, hb⟩
  replace h0 := h0.below hb
  replace h1 := h1.below hb
  replace h2 := h2.below hb
  replace b0 := b0.below hb
  replace b9 := b9.below hb
  replace H0 := H0.trans (hb.mono H0.size)
  clear hb
  go_wp2_with fail
  refine (lrev_v h0.ri h1.ri h2.ri (by omega)).mono ?_
  rintro e w3 ⟨s6, A6, n6, c6, s7, A7, n7, c7, s8, A8, n8, c8, rfl, g6, g7, g8, hb⟩
  replace h0 := h0.below hb
  replace h1 := h1.below hb
  replace h2 := h2.below hb
  replace b0 := b0.below hb
  replace b9 := b9.below hb
  replace H0 := H0.trans (hb.mono H0.size)
  clear hb
  go_wp2_with fail
  refine (lline_v g6.ri g7.ri g8.ri (by omega)).mono ?_
  rintro e w4 ⟨s3, A3, n3, c3, s4, A4, n4, c4, s5, A5, n5, c5, rfl, g3, g4, g5, hb⟩
  replace h0 := h0.below hb
  replace h1 := h1.below hb
  replace h2 := h2.below hb
  replace g6 := g6.below hb
  replace g7 := g7.below hb
  replace g8 := g8.below hb
  replace b0 := b0.below hb
  replace b9 := b9.below hb
  replace H0 := H0.trans (hb.mono H0.size)
  clear hb
  obtain ⟨cb90, yb90, cb91, yb91, cb92, yb92, cb93, yb93, cb94, yb94, cb95, yb95⟩ := b9.cf6
  go_wp2_with fail
  clear cb90 yb90 cb91 yb91 cb92 yb92 cb93 yb93 cb94 yb94 cb95 yb95
  have hg := only_store6 w4 (w.heap.size + 1) (.bool s3) (.slice A3 n3 c3) (.bool s4) (.slice A4 n4 c4) (.bool s5) (.slice A5 n5 c5)
  have hB := b9.stored6 (.bool s3) (.slice A3 n3 c3) (.bool s4) (.slice A4 n4 c4) (.bool s5) (.slice A5 n5 c5)
  generalize hX : ((((((w4.setCell ⟨w.heap.size + 1, 0, none⟩ (.bool s3)).setCell ⟨w.heap.size + 1, 1, none⟩ (.slice A3 n3 c3)).setCell ⟨w.heap.size + 1, 2, none⟩ (.bool s4)).setCell ⟨w.heap.size + 1, 3, none⟩ (.slice A4 n4 c4)).setCell ⟨w.heap.size + 1, 4, none⟩ (.bool s5)).setCell ⟨w.heap.size + 1, 5, none⟩ (.slice A5 n5 c5)) = X5 at hg hB ⊢
  clear hX
  replace h0 := h0.kept b9 (by simp [notInt]) hg
  replace h1 := h1.kept b9 (by simp [notInt]) hg
  replace h2 := h2.kept b9 (by simp [notInt]) hg
  replace g6 := g6.kept b9 (by simp [notInt]) hg
  replace g7 := g7.kept b9 (by simp [notInt]) hg
  replace g8 := g8.kept b9 (by simp [notInt]) hg
  replace g3 := g3.kept b9 (by simp [notInt]) hg
  replace g4 := g4.kept b9 (by simp [notInt]) hg
  replace g5 := g5.kept b9 (by simp [notInt]) hg
  replace b0 := b0.other hg (by omega)
  replace b9 := hB
  replace H0 := below_only H0 hg (by omega) H0.size
  clear hg hB
  refine bodyPost_ret (ret_line rfl rfl b9) rfl ?_
  exact ⟨_, _, _, _, _, _, _, _, _, _, _, _, rfl, g3, g4, g5, H0⟩
set_option maxRecDepth 100000 in
set_option maxHeartbeats 4000000 in
theorem lvalue_v (h0 : NI w s0 (.slice A0 n0 c0) z0 L) (h1 : NI w s1 (.slice A1 n1 c1) z1 L) (h2 : NI w s2 (.slice A2 n2 c2) z2 L) (v0 : VL z0 z1 z2) (h : NQ w s20 (.slice A20 n20 c20) (.slice D20 m20 e20) q0 L) (h' : NQ w s21 (.slice A21 n21 c21) (.slice D21 m21 e21) q1 L) (hL : L ≤ 10000) :
    Calls Tryz.prog 25 #[.agg #[.bool s0, .slice A0 n0 c0, .bool s1, .slice A1 n1 c1, .bool s2, .slice A2 n2 c2], .agg #[.bool s20, .slice A20 n20 c20, .slice D20 m20 e20, .bool s21, .slice A21 n21 c21, .slice D21 m21 e21]] w fun e w' => ∃ s13 A13 n13 c13 D13 m13 e13, e = .returned (.agg #[.bool s13, .slice A13 n13 c13, .slice D13 m13 e13]) ∧ NQ w' s13 (.slice A13 n13 c13) (.slice D13 m13 e13) ((z0 : Rat) * q0 + (z1 : Rat) * q1 + (z2 : Rat)) (2 * (2 * max L 2) + 2) ∧ Below w.heap.size w w' := by
  have V0 := Lib.hid v0
  clear v0
  have hM : L ≤ 2 * max L 2 := by omega
  have hM2 : 2 * max L 2 ≤ 2 * (2 * max L 2) + 2 := by omega
  go_enter Tryz.func25, Tryz.ntmps25
  go_wp2_with fail
  obtain ⟨W0, hW, b0, b1, b9, hbW, hszW0⟩ := boxes3 w #[.bool s0, .slice A0 n0 c0, .bool s1, .slice A1 n1 c1, .bool s2, .slice A2 n2 c2] #[.bool s20, .slice A20 n20 c20, .slice D20 m20 e20, .bool s21, .slice A21 n21 c21, .slice D21 m21 e21] #[.bool false, .slice none 0 0, .slice none 0 0] 30 54 52
  rw [hW]
  clear hW
  replace h0 := h0.below hbW
  replace h1 := h1.below hbW
  replace h2 := h2.below hbW
  replace h := h.below hbW
  replace h' := h'.below hbW
  have H0 := hbW
  clear hbW
  obtain ⟨cb00, cb01, cb02, cb03, cb04, cb05⟩ := b0.cells6
  go_wp2_with fail
  clear cb00 cb01 cb02 cb03 cb04 cb05
  refine (lvalid_v h0 h1 h2 V0.out (by omega)).mono ?_
  rintro e w1 ⟨rfl, hb⟩
  replace h0 := h0.below hb
  replace h1 := h1.below hb
  replace h2 := h2.below hb
  replace h := h.below hb
  replace h' := h'.below hb
  replace b0 := b0.below hb
  replace b1 := b1.below hb
  replace b9 := b9.below hb
  replace H0 := H0.trans (hb.mono H0.size)
  clear hb
  obtain ⟨cb10, cb11, cb12, cb13, cb14, cb15⟩ := b1.cells6
  go_wp2_with fail
  clear cb10 cb11 cb12 cb13 cb14 cb15
  refine (lhomog_v h h' (by omega)).mono ?_
  rintro e w2 ⟨ua, ub, ud, s6, A6, n6, c6, s7, A7, n7, c7, s8, A8, n8, c8, rfl, g6, g7, g8, hm, hb⟩
  replace h0 := h0.below hb
  replace h1 := h1.below hb
  replace h2 := h2.below hb
  replace h := h.below hb
  replace h' := h'.below hb
  replace b0 := b0.below hb
  replace b1 := b1.below hb
  replace b9 := b9.below hb
  replace H0 := H0.trans (hb.mono H0.size)
  clear hb
  clear h
  clear h'
  have lb0_3 := b0.lt
  have lb1_3 := b1.lt
  have lb9_3 := b9.lt
  obtain ⟨W3, hW, b5, hbW, hszW3⟩ := boxes1 w2 #[.bool s6, .slice A6 n6 c6, .bool s7, .slice A7 n7 c7, .bool s8, .slice A8 n8 c8] 106
  skip
  skip
  replace h0 := h0.below hbW
  replace h1 := h1.below hbW
  replace h2 := h2.below hbW
  replace g6 := g6.below hbW
  replace g7 := g7.below hbW
  replace g8 := g8.below hbW
  replace b0 := b0.below hbW
  replace b1 := b1.below hbW
  replace b9 := b9.below hbW
  replace H0 := H0.trans (hbW.mono H0.size)
  clear hbW
  obtain ⟨cb00, cb01, cb02, cb03, cb04, cb05⟩ := b0.cells6
  obtain ⟨cb50, cb51, cb52, cb53, cb54, cb55⟩ := b5.cells6
  go_wp2_with fail
  clear hW
  clear cb00 cb01 cb02 cb03 cb04 cb05 cb50 cb51 cb52 cb53 cb54 cb55
  have hD := drawn_below W3
  replace h0 := h0.below hD
  replace h1 := h1.below hD
  replace h2 := h2.below hD
  replace g6 := g6.below hD
  replace g7 := g7.below hD
  replace g8 := g8.below hD
  replace b0 := b0.below hD
  replace b1 := b1.below hD
  replace b9 := b9.below hD
  replace b5 := b5.below hD
  replace H0 := H0.trans (hD.mono H0.size)
  clear hD
  refine wp_region_noPanic ?_
  refine wp_region_held_drew (S := (fun V => V.cell? ⟨w.heap.size, 0, none⟩ = some (.bool s0) ∧ V.cell? ⟨w.heap.size, 1, none⟩ = some (.slice A0 n0 c0) ∧ V.cell? ⟨w.heap.size, 2, none⟩ = some (.bool s1) ∧ V.cell? ⟨w.heap.size, 3, none⟩ = some (.slice A1 n1 c1) ∧ V.cell? ⟨w.heap.size, 4, none⟩ = some (.bool s2) ∧ V.cell? ⟨w.heap.size, 5, none⟩ = some (.slice A2 n2 c2) ∧ V.cell? ⟨w2.heap.size, 0, none⟩ = some (.bool s6) ∧ V.cell? ⟨w2.heap.size, 1, none⟩ = some (.slice A6 n6 c6) ∧ V.cell? ⟨w2.heap.size, 2, none⟩ = some (.bool s7) ∧ V.cell? ⟨w2.heap.size, 3, none⟩ = some (.slice A7 n7 c7) ∧ V.cell? ⟨w2.heap.size, 4, none⟩ = some (.bool s8) ∧ V.cell? ⟨w2.heap.size, 5, none⟩ = some (.slice A8 n8 c8))) (by kernel_rfl) (b0.and6 (b5.all6)) (fun hHeld => ?_)
  generalize W3.drew = v4 at H0 hHeld h0 h1 h2 g6 g7 g8 b0 b1 b9 b5 ⊢
  refine tk 0 ?_ rfl (by kernel_rfl) (by kernel_rfl) (by kernel_rfl) (fun _ _ _ h => h) (by rfl) ?_ (by assumption) ?_
  rotate_left
  · (intro w hSw; (try dsimp only at hSw); go_simp; (try with_reducible rfl))
  (try simp only [getElem_toArray, getElem_cons_zero, Act.put, setIfInBounds_toArray, set_cons_zero, set_cons_succ])
  refine tk 2 ?_ rfl (by kernel_rfl) (by kernel_rfl) (by kernel_rfl) (fun _ _ _ h => h) (by rfl) ?_ (by assumption) ?_
  rotate_left
  · (intro w hSw; (try dsimp only at hSw); go_simp; (try with_reducible rfl))
  (try simp only [getElem_toArray, getElem_cons_succ, getElem_cons_zero, Act.put, setIfInBounds_toArray, set_cons_zero, set_cons_succ])
  refine tk 4 ?_ rfl (by kernel_rfl) (by kernel_rfl) (by kernel_rfl) (fun _ _ _ h => h) (by rfl) ?_ (by assumption) ?_
  rotate_left
  · (intro w hSw; (try dsimp only at hSw); go_simp; (try with_reducible rfl))
  (try simp only [getElem_toArray, getElem_cons_succ, getElem_cons_zero, Act.put, setIfInBounds_toArray, set_cons_zero, set_cons_succ])
  refine tk 5 ?_ rfl (by kernel_rfl) (by kernel_rfl) (by kernel_rfl) (fun _ _ _ h => h) (by rfl) ?_ (by assumption) ?_
  rotate_left
  · (intro w hSw; (try dsimp only at hSw); go_simp; (try with_reducible rfl))
  (try simp only [getElem_toArray, getElem_cons_succ, getElem_cons_zero, Act.put, setIfInBounds_toArray, set_cons_zero, set_cons_succ])
  refine rd1 1 (by kernel_rfl) rfl (fun K hK => ?_)
  go_simp
  go_at_call 82
  refine (lcoef_v).mono ?_
  rintro e w5 ⟨rfl, hb⟩
  replace h0 := h0.below hb
  replace h1 := h1.below hb
  replace h2 := h2.below hb
  replace g6 := g6.below hb
  replace g7 := g7.below hb
  replace g8 := g8.below hb
  replace b0 := b0.below hb
  replace b1 := b1.below hb
  replace b9 := b9.below hb
  replace b5 := b5.below hb
  replace H0 := H0.trans (hb.mono H0.size)
  clear hb
  go_wp2_with fail
  refine hK.out _ _ (b0.and6 (b5.all6)) (fun hHeld => ?_)
  clear hK K
  (try simp only [getElem_toArray, getElem_cons_succ, getElem_cons_zero, Act.put, setIfInBounds_toArray, set_cons_zero, set_cons_succ])
  refine rd1 3 (by kernel_rfl) rfl (fun K hK => ?_)
  go_simp
  go_at_call 81
  refine (ldot_v (h0.ri.more hM) (h1.ri.more hM) (h2.ri.more hM) g6.ri g7.ri g8.ri (by omega)).mono ?_
  rintro e w6 ⟨s9, A9, n9, c9, rfl, g9, hb⟩
  replace h0 := h0.below hb
  replace h1 := h1.below hb
  replace h2 := h2.below hb
  replace g6 := g6.below hb
  replace g7 := g7.below hb
  replace g8 := g8.below hb
  replace b0 := b0.below hb
  replace b1 := b1.below hb
  replace b9 := b9.below hb
  replace b5 := b5.below hb
  replace H0 := H0.trans (hb.mono H0.size)
  clear hb
  go_wp2_with fail
  refine hK.out _ _ (b0.and6 (b5.all6)) (fun hHeld => ?_)
  clear hK K
  (try simp only [getElem_toArray, getElem_cons_succ, getElem_cons_zero, Act.put, setIfInBounds_toArray, set_cons_zero, set_cons_succ])
  refine rd1 6 (by kernel_rfl) rfl (fun K hK => ?_)
  go_simp
  go_at_call 80
  refine (lquot_v g9.ri (g8.ri.more hM2) (by have := hm.1; omega) (by omega)).mono ?_
  rintro e w7 ⟨s13, A13, n13, c13, D13, m13, e13, rfl, g13, hb⟩
  replace h0 := h0.below hb
  replace h1 := h1.below hb
  replace h2 := h2.below hb
  replace g6 := g6.below hb
  replace g7 := g7.below hb
  replace g8 := g8.below hb
  replace g9 := g9.below hb
  replace b0 := b0.below hb
  replace b1 := b1.below hb
  replace b9 := b9.below hb
  replace b5 := b5.below hb
  replace H0 := H0.trans (hb.mono H0.size)
  clear hb
  clear g9
  go_wp2_with fail
  refine hK.out _ _ (b0.and6 (b5.all6)) (fun hHeld => ?_)
  clear hK K
  (try simp only [getElem_toArray, getElem_cons_succ, getElem_cons_zero, Act.put, setIfInBounds_toArray, set_cons_zero, set_cons_succ])
  obtain ⟨cb90, yb90, cb91, yb91, cb92, yb92⟩ := b9.cf3
  refine rd1 7 (by kernel_rfl) rfl (fun K hK => ?_)
  go_simp
  clear cb90 yb90 cb91 yb91 cb92 yb92
  have hg := only_store3 w7 (w.heap.size + 1 + 1) (.bool s13) (.slice A13 n13 c13) (.slice D13 m13 e13)
  have hB := b9.stored3 (.bool s13) (.slice A13 n13 c13) (.slice D13 m13 e13)
  generalize hX : (((w7.setCell ⟨w.heap.size + 1 + 1, 0, none⟩ (.bool s13)).setCell ⟨w.heap.size + 1 + 1, 1, none⟩ (.slice A13 n13 c13)).setCell ⟨w.heap.size + 1 + 1, 2, none⟩ (.slice D13 m13 e13)) = X8 at hg hB ⊢
  clear hX
  replace h0 := h0.kept b9 (by simp [notInt]) hg
  replace h1 := h1.kept b9 (by simp [notInt]) hg
  replace h2 := h2.kept b9 (by simp [notInt]) hg
  replace g6 := g6.kept b9 (by simp [notInt]) hg
  replace g7 := g7.kept b9 (by simp [notInt]) hg
  replace g8 := g8.kept b9 (by simp [notInt]) hg
  replace g13 := g13.kept b9 (by simp [notInt]) hg
  replace b0 := b0.other hg (by omega)
  replace b1 := b1.other hg (by omega)
  replace b5 := b5.other hg (by omega)
  replace b9 := hB
  replace H0 := below_only H0 hg (by omega) H0.size
  clear hg hB
  refine hK.out _ _ (b0.and6 (b5.all6)) (fun hHeld => ?_)
  clear hK K
  (try simp only [getElem_toArray, getElem_cons_succ, getElem_cons_zero, Act.put, setIfInBounds_toArray, set_cons_zero, set_cons_succ])
  refine wpAnyH_done (by kernel_rfl) ?_ _
  refine NoPanic.normal ?_
  go_wp2_with fail
  refine bodyPost_ret (ret_rat rfl rfl b9) rfl ?_
  exact ⟨s13, A13, n13, c13, D13, m13, e13, rfl, by rw [← hom_val hm]; exact g13, H0⟩
end
end Go.Proofs.YtancgkmkbgkncaaGreat
namespace Go.Proofs.YtancgkmkbgkncaaGreat
open List (getElem_toArray getElem_cons_succ getElem_cons_zero setIfInBounds_toArray set_cons_zero set_cons_succ)
open Go.RowKit

section
variable {A0 A1 A2 A3 A4 A5 A6 A7 A8 A9 A10 A11 A12 A13 A14 A15 A16 A17 A20 A21 D0 D1 D2 D3 D4 D5 D6 D7 D13 D15 D16 D17 D20 D21 : Option Addr} {n0 n1 n2 n3 n4 n5 n6 n7 n8 n9 n10 n11 n12 n13 n14 n15 n16 n17 n20 n21 c0 c1 c2 c3 c4 c5 c6 c7 c8 c9 c10 c11 c12 c13 c14 c15 c16 c17 c20 c21 m0 m1 m2 m3 m4 m5 m6 m7 m13 m15 m16 m17 m20 m21 e0 e1 e2 e3 e4 e5 e6 e7 e13 e15 e16 e17 e20 e21 : Nat} {s0 s1 s2 s3 s4 s5 s6 s7 s8 s9 s10 s11 s12 s13 s14 s15 s16 s17 s20 s21 : Bool} {q0 q1 q2 q3 q4 q5 q6 q7 : Rat} {z0 z1 z2 z3 z4 z5 z6 z7 z8 z9 z10 z11 : Int} {L L0 L1 x y : Nat} {k : Int} {b : Bool} {w : World}
set_option maxRecDepth 100000 in
set_option maxHeartbeats 4000000 in
theorem lat_v (h0 : NI w s0 (.slice A0 n0 c0) z0 L) (h1 : NI w s1 (.slice A1 n1 c1) z1 L) (h2 : NI w s2 (.slice A2 n2 c2) z2 L) (v0 : VL z0 z1 z2) (h : NQ w s20 (.slice A20 n20 c20) (.slice D20 m20 e20) q0 L) (hL : L ≤ 10000) :
    Calls Tryz.prog 35 #[.agg #[.bool s0, .slice A0 n0 c0, .bool s1, .slice A1 n1 c1, .bool s2, .slice A2 n2 c2], .agg #[.bool s20, .slice A20 n20 c20, .slice D20 m20 e20]] w fun e w' => ∃ s16 A16 n16 c16 D16 m16 e16 s17 A17 n17 c17 D17 m17 e17, e = .returned (.agg #[.bool s16, .slice A16 n16 c16, .slice D16 m16 e16, .bool s17, .slice A17 n17 c17, .slice D17 m17 e17]) ∧ NQ w' s16 (.slice A16 n16 c16) (.slice D16 m16 e16) (atX z0 z1 z2 q0) (2 * (3 * max L 2 + 2) + 1) ∧ NQ w' s17 (.slice A17 n17 c17) (.slice D17 m17 e17) (atY z0 z1 z2 q0) (2 * (3 * max L 2 + 2) + 1) ∧ Below w.heap.size w w' := by
  have V0 := Lib.hid v0
  clear v0
  have hM : L ≤ 3 * max L 2 + 2 := by omega
  go_enter Tryz.func35, Tryz.ntmps35
  go_wp2_with fail
  obtain ⟨W0, hW, b0, b1, b9, hbW, hszW0⟩ := boxes3 w #[.bool s0, .slice A0 n0 c0, .bool s1, .slice A1 n1 c1, .bool s2, .slice A2 n2 c2] #[.bool s20, .slice A20 n20 c20, .slice D20 m20 e20] #[.bool false, .slice none 0 0, .slice none 0 0, .bool false, .slice none 0 0, .slice none 0 0] 30 52 54
  rw [hW]
  clear hW
  replace h0 := h0.below hbW
  replace h1 := h1.below hbW
  replace h2 := h2.below hbW
  replace h := h.below hbW
  have H0 := hbW
  clear hbW
  obtain ⟨cb00, cb01, cb02, cb03, cb04, cb05⟩ := b0.cells6
  go_wp2_with fail
  clear cb00 cb01 cb02 cb03 cb04 cb05
  refine (lvalid_v h0 h1 h2 V0.out (by omega)).mono ?_
  rintro e w1 ⟨rfl, hb⟩
  replace h0 := h0.below hb
  replace h1 := h1.below hb
  replace h2 := h2.below hb
  replace h := h.below hb
  replace b0 := b0.below hb
  replace b1 := b1.below hb
  replace b9 := b9.below hb
  replace H0 := H0.trans (hb.mono H0.size)
  clear hb
  obtain ⟨cb00, cb01, cb02, cb03, cb04, cb05⟩ := b0.cells6
  go_wp2_with fail
  clear cb00 cb01 cb02 cb03 cb04 cb05
  refine (lcoef_v).mono ?_
  rintro e w2 ⟨rfl, hb⟩
  replace h0 := h0.below hb
  replace h1 := h1.below hb
  replace h2 := h2.below hb
  replace h := h.below hb
  replace b0 := b0.below hb
  replace b1 := b1.below hb
  replace b9 := b9.below hb
  replace H0 := H0.trans (hb.mono H0.size)
  clear hb
  have lb0_3 := b0.lt
  have lb1_3 := b1.lt
  have lb9_3 := b9.lt
  obtain ⟨W3, hW, b5, hbW, hszW3⟩ := boxes1 w2 #[.bool s0, .slice A0 n0 c0, .bool s1, .slice A1 n1 c1, .bool s2, .slice A2 n2 c2] 95
  skip
  skip
  replace h0 := h0.below hbW
  replace h1 := h1.below hbW
  replace h2 := h2.below hbW
  replace h := h.below hbW
  replace b0 := b0.below hbW
  replace b1 := b1.below hbW
  replace b9 := b9.below hbW
  replace H0 := H0.trans (hbW.mono H0.size)
  clear hbW
  obtain ⟨cb10, cb11, cb12⟩ := b1.cells3
  obtain ⟨cb50, cb51, cb52, cb53, cb54, cb55⟩ := b5.cells6
  go_wp2_with fail
  clear hW
  clear cb10 cb11 cb12 cb50 cb51 cb52 cb53 cb54 cb55
  have lcb0_4 := b0.lt
  have lcb1_4 := b1.lt
  have lcb9_4 := b9.lt
  have lcb5_4 := b5.lt
  go_cut [6] from 7 (fun u4_0 wx => ∃ g4_0 s16 A16 n16 c16 D16 m16 e16 s17 A17 n17 c17 D17 m17 e17, u4_0 = .pointer (some ⟨g4_0, 0, none⟩) ∧ NQ wx s16 (.slice A16 n16 c16) (.slice D16 m16 e16) (atX z0 z1 z2 q0) (2 * (3 * max L 2 + 2) + 1) ∧ NQ wx s17 (.slice A17 n17 c17) (.slice D17 m17 e17) (atY z0 z1 z2 q0) (2 * (3 * max L 2 + 2) + 1) ∧ Box wx g4_0 #[.bool s16, .slice A16 n16 c16, .slice D16 m16 e16, .bool s17, .slice A17 n17 c17, .slice D17 m17 e17] 54 ∧ W3.heap.size ≤ g4_0 ∧ Below W3.heap.size W3 wx)
  case first =>
    have hG := drawn_below W3
    refine wp_region_noPanic ?_
    refine wp_region_held_drew (S := (fun V => V.cell? ⟨w2.heap.size, 0, none⟩ = some (.bool s0) ∧ V.cell? ⟨w2.heap.size, 1, none⟩ = some (.slice A0 n0 c0) ∧ V.cell? ⟨w2.heap.size, 2, none⟩ = some (.bool s1) ∧ V.cell? ⟨w2.heap.size, 3, none⟩ = some (.slice A1 n1 c1) ∧ V.cell? ⟨w2.heap.size, 4, none⟩ = some (.bool s2) ∧ V.cell? ⟨w2.heap.size, 5, none⟩ = some (.slice A2 n2 c2) ∧ V.cell? ⟨w.heap.size + 1, 0, none⟩ = some (.bool s20) ∧ V.cell? ⟨w.heap.size + 1, 1, none⟩ = some (.slice A20 n20 c20) ∧ V.cell? ⟨w.heap.size + 1, 2, none⟩ = some (.slice D20 m20 e20))) (by kernel_rfl) ((b5.below hG).and6 ((b1.below hG).all3)) (fun hHeld => ?_)
    generalize W3.drew = v4 at hG hHeld ⊢
    have sG := hG.size
    refine tk 0 ?_ rfl (by kernel_rfl) (by kernel_rfl) (by kernel_rfl) (fun _ _ _ h => h) (by rfl) ?_ (by assumption) ?_
    rotate_left
    · (intro w hSw; (try dsimp only at hSw); go_simp; (try with_reducible rfl))
    (try simp only [getElem_toArray, getElem_cons_zero, Act.put, setIfInBounds_toArray, set_cons_zero, set_cons_succ])
    refine tk 1 ?_ rfl (by kernel_rfl) (by kernel_rfl) (by kernel_rfl) (fun _ _ _ h => h) (by rfl) ?_ (by assumption) ?_
    rotate_left
    · (intro w hSw; (try dsimp only at hSw); go_simp; (try with_reducible rfl))
    (try simp only [getElem_toArray, getElem_cons_succ, getElem_cons_zero, Act.put, setIfInBounds_toArray, set_cons_zero, set_cons_succ])
    refine tk 2 ?_ rfl (by kernel_rfl) (by kernel_rfl) (by kernel_rfl) (fun _ _ _ h => h) (by rfl) ?_ (by assumption) ?_
    rotate_left
    · (intro w hSw; (try dsimp only at hSw); go_simp; (try with_reducible rfl))
    (try simp only [getElem_toArray, getElem_cons_succ, getElem_cons_zero, Act.put, setIfInBounds_toArray, set_cons_zero, set_cons_succ])
    refine wpAnyH_ready (rs := [3, 9]) (by kernel_rfl) (by simp) (AllReadyH.cons (o := _) rfl (fun K hK => ?_) (AllReadyH.cons (o := _) rfl (fun K hK => ?_) AllReadyH.nil))
    · go_simp
      go_at_call 92
      refine (lacrossat_v (h0.below hG) (h1.below hG) (h.below hG) hL).mono ?_
      rintro e y4_1 ⟨s6, A6, n6, c6, s7, A7, n7, c7, s8, A8, n8, c8, rfl, g6, g7, g8, hb9⟩
      have szy4_1 := hb9.size
      replace hG := hG.trans (hb9.mono sG)
      replace sG := hG.size
      clear hb9
      go_wp2_with fail
      refine hK.out _ _ ((b5.below hG).and6 ((b1.below hG).all3)) (fun hHeld => ?_)
      clear hK K
      (try simp only [getElem_toArray, getElem_cons_succ, getElem_cons_zero, Act.put, setIfInBounds_toArray, set_cons_zero, set_cons_succ])
      refine wpAnyH_ready (rs := [4, 9]) (by kernel_rfl) (by simp) (AllReadyH.cons (o := _) rfl (fun K hK => ?_) (AllReadyH.cons (o := _) rfl (fun K hK => ?_) AllReadyH.nil))
      · go_simp
        go_at_call 91
        refine (dcross_v ((h0.below hG).ri.more hM) ((h1.below hG).ri.more hM) ((h2.below hG).ri.more hM) g6.ri g7.ri g8.ri (by omega)).mono ?_
        rintro e y4_2 ⟨s9, A9, n9, c9, s10, A10, n10, c10, s11, A11, n11, c11, rfl, g9, g10, g11, hb9⟩
        have szy4_2 := hb9.size
        replace g6 := g6.below hb9
        replace g7 := g7.below hb9
        replace g8 := g8.below hb9
        replace hG := hG.trans (hb9.mono sG)
        replace sG := hG.size
        clear hb9
        clear g6
        clear g7
        clear g8
        go_wp2_with fail
        refine hK.out _ _ ((b5.below hG).and6 ((b1.below hG).all3)) (fun hHeld => ?_)
        clear hK K
        (try simp only [getElem_toArray, getElem_cons_succ, getElem_cons_zero, Act.put, setIfInBounds_toArray, set_cons_zero, set_cons_succ])
        refine wpAnyH_ready (rs := [5, 9]) (by kernel_rfl) (by simp) (AllReadyH.cons (o := _) rfl (fun K hK => ?_) (AllReadyH.cons (o := _) rfl (fun K hK => ?_) AllReadyH.nil))
        · go_simp
          go_at_call 93
          refine (lpoint_v g9.ri g10.ri g11.ri (at_den V0.out.1 (by have := q0.den_pos; omega)) (by omega)).mono ?_
          rintro e y4_3 ⟨s16, A16, n16, c16, D16, m16, e16, s17, A17, n17, c17, D17, m17, e17, rfl, g3, g4, hb9⟩
          have szy4_3 := hb9.size
          replace g9 := g9.below hb9
          replace g10 := g10.below hb9
          replace g11 := g11.below hb9
          replace hG := hG.trans (hb9.mono sG)
          replace sG := hG.size
          clear hb9
          clear g9
          clear g10
          clear g11
          go_wp2_with fail
          refine hK.out _ _ ((b5.below hG).and6 ((b1.below hG).all3)) (fun hHeld => ?_)
          clear hK K
          (try simp only [getElem_toArray, getElem_cons_succ, getElem_cons_zero, Act.put, setIfInBounds_toArray, set_cons_zero, set_cons_succ])
          refine tk 6 ?_ rfl (by kernel_rfl) (by kernel_rfl) (by kernel_rfl) (fun _ _ _ h => h) (by rfl) ?_ (by assumption) ?_
          rotate_left
          · (intro w hSw; (try dsimp only at hSw); go_simp; (try with_reducible rfl))
          (try simp only [getElem_toArray, getElem_cons_succ, getElem_cons_zero, Act.put, setIfInBounds_toArray, set_cons_zero, set_cons_succ])
          refine tk 7 ?_ rfl (by kernel_rfl) (by kernel_rfl) (by kernel_rfl) (fun _ _ _ h => h) (by rfl) ?_ (by assumption) ?_
          rotate_left
          · (intro w hSw; (try dsimp only at hSw); go_simp; (try with_reducible rfl))
          (try simp only [getElem_toArray, getElem_cons_succ, getElem_cons_zero, Act.put, setIfInBounds_toArray, set_cons_zero, set_cons_succ])
          refine tk 8 ?_ rfl (by kernel_rfl) (by kernel_rfl) (by kernel_rfl) (fun _ _ _ h => h) (by rfl) ?_ (by assumption) ?_
          rotate_left
          · (intro w hSw; (try dsimp only at hSw); go_simp; (try with_reducible rfl))
          (try simp only [getElem_toArray, getElem_cons_succ, getElem_cons_zero, Act.put, setIfInBounds_toArray, set_cons_zero, set_cons_succ])
          refine rd1 9 (by kernel_rfl) rfl (fun K hK => ?_)
          go_simp
          obtain ⟨y4_4, hV, b6, hb9, szy4_4⟩ := boxes1 y4_3 #[.bool false, .slice none 0 0, .slice none 0 0, .bool false, .slice none 0 0, .slice none 0 0] 54
          rw [hV]
          clear hV
          have gly4_4 : W3.heap.size ≤ y4_3.heap.size := sG
          replace szy4_4 : y4_3.heap.size < y4_4.heap.size := by omega
          replace g3 := g3.below hb9
          replace g4 := g4.below hb9
          replace hG := hG.trans (hb9.mono sG)
          replace sG := hG.size
          clear hb9
          refine hK.out _ _ ((b5.below hG).and6 ((b1.below hG).all3)) (fun hHeld => ?_)
          clear hK K
          (try simp only [getElem_toArray, getElem_cons_succ, getElem_cons_zero, Act.put, setIfInBounds_toArray, set_cons_zero, set_cons_succ])
          have rb60 := b6.cell 0 _ rfl
          have qb60 := b6.frozen 0
          have rb61 := b6.cell 1 _ rfl
          have qb61 := b6.frozen 1
          have rb62 := b6.cell 2 _ rfl
          have qb62 := b6.frozen 2
          have rb63 := b6.cell 3 _ rfl
          have qb63 := b6.frozen 3
          have rb64 := b6.cell 4 _ rfl
          have qb64 := b6.frozen 4
          have rb65 := b6.cell 5 _ rfl
          have qb65 := b6.frozen 5
          refine rd1 10 (by kernel_rfl) rfl (fun K hK => ?_)
          go_simp
          clear rb60 qb60
          clear rb61 qb61
          clear rb62 qb62
          clear rb63 qb63
          clear rb64 qb64
          clear rb65 qb65
          have hg := only_store6 y4_4 (y4_3.heap.size) (.bool s16) (.slice A16 n16 c16) (.slice D16 m16 e16) (.bool s17) (.slice A17 n17 c17) (.slice D17 m17 e17)
          have hB := b6.stored6 (.bool s16) (.slice A16 n16 c16) (.slice D16 m16 e16) (.bool s17) (.slice A17 n17 c17) (.slice D17 m17 e17)
          generalize hX : ((((((y4_4.setCell ⟨y4_3.heap.size, 0, none⟩ (.bool s16)).setCell ⟨y4_3.heap.size, 1, none⟩ (.slice A16 n16 c16)).setCell ⟨y4_3.heap.size, 2, none⟩ (.slice D16 m16 e16)).setCell ⟨y4_3.heap.size, 3, none⟩ (.bool s17)).setCell ⟨y4_3.heap.size, 4, none⟩ (.slice A17 n17 c17)).setCell ⟨y4_3.heap.size, 5, none⟩ (.slice D17 m17 e17)) = Y4_5 at hg hB ⊢
          clear hX
          replace g3 := g3.kept b6 (by simp [notInt]) hg
          replace g4 := g4.kept b6 (by simp [notInt]) hg
          replace b6 := hB
          replace hG := below_only hG hg (by omega) sG
          replace sG := hG.size
          clear hg hB
          refine hK.out _ _ ((b5.below hG).and6 ((b1.below hG).all3)) (fun hHeld => ?_)
          clear hK K
          (try simp only [getElem_toArray, getElem_cons_succ, getElem_cons_zero, Act.put, setIfInBounds_toArray, set_cons_zero, set_cons_succ])
          refine tk 11 ?_ rfl (by kernel_rfl) (by kernel_rfl) (by kernel_rfl) (fun _ _ _ h => h) (by rfl) ?_ (by assumption) ?_
          rotate_left
          · (intro w hSw; (try dsimp only at hSw); go_simp; (try with_reducible rfl))
          (try simp only [getElem_toArray, getElem_cons_succ, getElem_cons_zero, Act.put, setIfInBounds_toArray, set_cons_zero, set_cons_succ])
          refine wpAnyH_done (by kernel_rfl) ?_ _
          refine NoPanic.normal ?_
          go_wp2_with fail
          go_meet
          exact ⟨y4_3.heap.size, s16, A16, n16, c16, D16, m16, e16, s17, A17, n17, c17, D17, m17, e17, rfl, by rw [← at_x z2 V0.out.1]; exact g3, by rw [← at_y z2 V0.out.1]; exact g4, b6, (by omega), hG⟩
        · go_simp
          obtain ⟨y4_6, hV, b6, hb9, szy4_6⟩ := boxes1 y4_2 #[.bool false, .slice none 0 0, .slice none 0 0, .bool false, .slice none 0 0, .slice none 0 0] 54
          rw [hV]
          clear hV
          have gly4_6 : W3.heap.size ≤ y4_2.heap.size := sG
          replace szy4_6 : y4_2.heap.size < y4_6.heap.size := by omega
          replace g9 := g9.below hb9
          replace g10 := g10.below hb9
          replace g11 := g11.below hb9
          replace hG := hG.trans (hb9.mono sG)
          replace sG := hG.size
          clear hb9
          refine hK.out _ _ ((b5.below hG).and6 ((b1.below hG).all3)) (fun hHeld => ?_)
          clear hK K
          (try simp only [getElem_toArray, getElem_cons_succ, getElem_cons_zero, Act.put, setIfInBounds_toArray, set_cons_zero, set_cons_succ])
          refine rd1 5 (by kernel_rfl) rfl (fun K hK => ?_)
          go_simp
          go_at_call 93
          refine (lpoint_v g9.ri g10.ri g11.ri (at_den V0.out.1 (by have := q0.den_pos; omega)) (by omega)).mono ?_
          rintro e y4_7 ⟨s16, A16, n16, c16, D16, m16, e16, s17, A17, n17, c17, D17, m17, e17, rfl, g3, g4, hb9⟩
          have szy4_7 := hb9.size
          replace g9 := g9.below hb9
          replace g10 := g10.below hb9
          replace g11 := g11.below hb9
          replace b6 := b6.below hb9
          replace hG := hG.trans (hb9.mono sG)
          replace sG := hG.size
          clear hb9
          clear g9
          clear g10
          clear g11
          go_wp2_with fail
          refine hK.out _ _ ((b5.below hG).and6 ((b1.below hG).all3)) (fun hHeld => ?_)
          clear hK K
          (try simp only [getElem_toArray, getElem_cons_succ, getElem_cons_zero, Act.put, setIfInBounds_toArray, set_cons_zero, set_cons_succ])
          refine tk 6 ?_ rfl (by kernel_rfl) (by kernel_rfl) (by kernel_rfl) (fun _ _ _ h => h) (by rfl) ?_ (by assumption) ?_
          rotate_left
          · (intro w hSw; (try dsimp only at hSw); go_simp; (try with_reducible rfl))
          (try simp only [getElem_toArray, getElem_cons_succ, getElem_cons_zero, Act.put, setIfInBounds_toArray, set_cons_zero, set_cons_succ])
          refine tk 7 ?_ rfl (by kernel_rfl) (by kernel_rfl) (by kernel_rfl) (fun _ _ _ h => h) (by rfl) ?_ (by assumption) ?_
          rotate_left
          · (intro w hSw; (try dsimp only at hSw); go_simp; (try with_reducible rfl))
          (try simp only [getElem_toArray, getElem_cons_succ, getElem_cons_zero, Act.put, setIfInBounds_toArray, set_cons_zero, set_cons_succ])
          refine tk 8 ?_ rfl (by kernel_rfl) (by kernel_rfl) (by kernel_rfl) (fun _ _ _ h => h) (by rfl) ?_ (by assumption) ?_
          rotate_left
          · (intro w hSw; (try dsimp only at hSw); go_simp; (try with_reducible rfl))
          (try simp only [getElem_toArray, getElem_cons_succ, getElem_cons_zero, Act.put, setIfInBounds_toArray, set_cons_zero, set_cons_succ])
          have rb60 := b6.cell 0 _ rfl
          have qb60 := b6.frozen 0
          have rb61 := b6.cell 1 _ rfl
          have qb61 := b6.frozen 1
          have rb62 := b6.cell 2 _ rfl
          have qb62 := b6.frozen 2
          have rb63 := b6.cell 3 _ rfl
          have qb63 := b6.frozen 3
          have rb64 := b6.cell 4 _ rfl
          have qb64 := b6.frozen 4
          have rb65 := b6.cell 5 _ rfl
          have qb65 := b6.frozen 5
          refine rd1 10 (by kernel_rfl) rfl (fun K hK => ?_)
          go_simp
          clear rb60 qb60
          clear rb61 qb61
          clear rb62 qb62
          clear rb63 qb63
          clear rb64 qb64
          clear rb65 qb65
          have hg := only_store6 y4_7 (y4_2.heap.size) (.bool s16) (.slice A16 n16 c16) (.slice D16 m16 e16) (.bool s17) (.slice A17 n17 c17) (.slice D17 m17 e17)
          have hB := b6.stored6 (.bool s16) (.slice A16 n16 c16) (.slice D16 m16 e16) (.bool s17) (.slice A17 n17 c17) (.slice D17 m17 e17)
          generalize hX : ((((((y4_7.setCell ⟨y4_2.heap.size, 0, none⟩ (.bool s16)).setCell ⟨y4_2.heap.size, 1, none⟩ (.slice A16 n16 c16)).setCell ⟨y4_2.heap.size, 2, none⟩ (.slice D16 m16 e16)).setCell ⟨y4_2.heap.size, 3, none⟩ (.bool s17)).setCell ⟨y4_2.heap.size, 4, none⟩ (.slice A17 n17 c17)).setCell ⟨y4_2.heap.size, 5, none⟩ (.slice D17 m17 e17)) = Y4_8 at hg hB ⊢
          clear hX
          replace g3 := g3.kept b6 (by simp [notInt]) hg
          replace g4 := g4.kept b6 (by simp [notInt]) hg
          replace b6 := hB
          replace hG := below_only hG hg (by omega) sG
          replace sG := hG.size
          clear hg hB
          refine hK.out _ _ ((b5.below hG).and6 ((b1.below hG).all3)) (fun hHeld => ?_)
          clear hK K
          (try simp only [getElem_toArray, getElem_cons_succ, getElem_cons_zero, Act.put, setIfInBounds_toArray, set_cons_zero, set_cons_succ])
          refine tk 11 ?_ rfl (by kernel_rfl) (by kernel_rfl) (by kernel_rfl) (fun _ _ _ h => h) (by rfl) ?_ (by assumption) ?_
          rotate_left
          · (intro w hSw; (try dsimp only at hSw); go_simp; (try with_reducible rfl))
          (try simp only [getElem_toArray, getElem_cons_succ, getElem_cons_zero, Act.put, setIfInBounds_toArray, set_cons_zero, set_cons_succ])
          refine wpAnyH_done (by kernel_rfl) ?_ _
          refine NoPanic.normal ?_
          go_wp2_with fail
          go_meet
          exact ⟨y4_2.heap.size, s16, A16, n16, c16, D16, m16, e16, s17, A17, n17, c17, D17, m17, e17, rfl, by rw [← at_x z2 V0.out.1]; exact g3, by rw [← at_y z2 V0.out.1]; exact g4, b6, (by omega), hG⟩
      · go_simp
        obtain ⟨y4_9, hV, b6, hb9, szy4_9⟩ := boxes1 y4_1 #[.bool false, .slice none 0 0, .slice none 0 0, .bool false, .slice none 0 0, .slice none 0 0] 54
        rw [hV]
        clear hV
        have gly4_9 : W3.heap.size ≤ y4_1.heap.size := sG
        replace szy4_9 : y4_1.heap.size < y4_9.heap.size := by omega
        replace g6 := g6.below hb9
        replace g7 := g7.below hb9
        replace g8 := g8.below hb9
        replace hG := hG.trans (hb9.mono sG)
        replace sG := hG.size
        clear hb9
        refine hK.out _ _ ((b5.below hG).and6 ((b1.below hG).all3)) (fun hHeld => ?_)
        clear hK K
        (try simp only [getElem_toArray, getElem_cons_succ, getElem_cons_zero, Act.put, setIfInBounds_toArray, set_cons_zero, set_cons_succ])
        refine rd1 4 (by kernel_rfl) rfl (fun K hK => ?_)
        go_simp
        go_at_call 91
        refine (dcross_v ((h0.below hG).ri.more hM) ((h1.below hG).ri.more hM) ((h2.below hG).ri.more hM) g6.ri g7.ri g8.ri (by omega)).mono ?_
        rintro e y4_10 ⟨s9, A9, n9, c9, s10, A10, n10, c10, s11, A11, n11, c11, rfl, g9, g10, g11, hb9⟩
        have szy4_10 := hb9.size
        replace g6 := g6.below hb9
        replace g7 := g7.below hb9
        replace g8 := g8.below hb9
        replace b6 := b6.below hb9
        replace hG := hG.trans (hb9.mono sG)
        replace sG := hG.size
        clear hb9
        clear g6
        clear g7
        clear g8
        go_wp2_with fail
        refine hK.out _ _ ((b5.below hG).and6 ((b1.below hG).all3)) (fun hHeld => ?_)
        clear hK K
        (try simp only [getElem_toArray, getElem_cons_succ, getElem_cons_zero, Act.put, setIfInBounds_toArray, set_cons_zero, set_cons_succ])
        refine rd1 5 (by kernel_rfl) rfl (fun K hK => ?_)
        go_simp
        go_at_call 93
        refine (lpoint_v g9.ri g10.ri g11.ri (at_den V0.out.1 (by have := q0.den_pos; omega)) (by omega)).mono ?_
        rintro e y4_11 ⟨s16, A16, n16, c16, D16, m16, e16, s17, A17, n17, c17, D17, m17, e17, rfl, g3, g4, hb9⟩
        have szy4_11 := hb9.size
        replace g9 := g9.below hb9
        replace g10 := g10.below hb9
        replace g11 := g11.below hb9
        replace b6 := b6.below hb9
        replace hG := hG.trans (hb9.mono sG)
        replace sG := hG.size
        clear hb9
        clear g9
        clear g10
        clear g11
        go_wp2_with fail
        refine hK.out _ _ ((b5.below hG).and6 ((b1.below hG).all3)) (fun hHeld => ?_)
        clear hK K
        (try simp only [getElem_toArray, getElem_cons_succ, getElem_cons_zero, Act.put, setIfInBounds_toArray, set_cons_zero, set_cons_succ])
        refine tk 6 ?_ rfl (by kernel_rfl) (by kernel_rfl) (by kernel_rfl) (fun _ _ _ h => h) (by rfl) ?_ (by assumption) ?_
        rotate_left
        · (intro w hSw; (try dsimp only at hSw); go_simp; (try with_reducible rfl))
        (try simp only [getElem_toArray, getElem_cons_succ, getElem_cons_zero, Act.put, setIfInBounds_toArray, set_cons_zero, set_cons_succ])
        refine tk 7 ?_ rfl (by kernel_rfl) (by kernel_rfl) (by kernel_rfl) (fun _ _ _ h => h) (by rfl) ?_ (by assumption) ?_
        rotate_left
        · (intro w hSw; (try dsimp only at hSw); go_simp; (try with_reducible rfl))
        (try simp only [getElem_toArray, getElem_cons_succ, getElem_cons_zero, Act.put, setIfInBounds_toArray, set_cons_zero, set_cons_succ])
        refine tk 8 ?_ rfl (by kernel_rfl) (by kernel_rfl) (by kernel_rfl) (fun _ _ _ h => h) (by rfl) ?_ (by assumption) ?_
        rotate_left
        · (intro w hSw; (try dsimp only at hSw); go_simp; (try with_reducible rfl))
        (try simp only [getElem_toArray, getElem_cons_succ, getElem_cons_zero, Act.put, setIfInBounds_toArray, set_cons_zero, set_cons_succ])
        have rb60 := b6.cell 0 _ rfl
        have qb60 := b6.frozen 0
        have rb61 := b6.cell 1 _ rfl
        have qb61 := b6.frozen 1
        have rb62 := b6.cell 2 _ rfl
        have qb62 := b6.frozen 2
        have rb63 := b6.cell 3 _ rfl
        have qb63 := b6.frozen 3
        have rb64 := b6.cell 4 _ rfl
        have qb64 := b6.frozen 4
        have rb65 := b6.cell 5 _ rfl
        have qb65 := b6.frozen 5
        refine rd1 10 (by kernel_rfl) rfl (fun K hK => ?_)
        go_simp
        clear rb60 qb60
        clear rb61 qb61
        clear rb62 qb62
        clear rb63 qb63
        clear rb64 qb64
        clear rb65 qb65
        have hg := only_store6 y4_11 (y4_1.heap.size) (.bool s16) (.slice A16 n16 c16) (.slice D16 m16 e16) (.bool s17) (.slice A17 n17 c17) (.slice D17 m17 e17)
        have hB := b6.stored6 (.bool s16) (.slice A16 n16 c16) (.slice D16 m16 e16) (.bool s17) (.slice A17 n17 c17) (.slice D17 m17 e17)
        generalize hX : ((((((y4_11.setCell ⟨y4_1.heap.size, 0, none⟩ (.bool s16)).setCell ⟨y4_1.heap.size, 1, none⟩ (.slice A16 n16 c16)).setCell ⟨y4_1.heap.size, 2, none⟩ (.slice D16 m16 e16)).setCell ⟨y4_1.heap.size, 3, none⟩ (.bool s17)).setCell ⟨y4_1.heap.size, 4, none⟩ (.slice A17 n17 c17)).setCell ⟨y4_1.heap.size, 5, none⟩ (.slice D17 m17 e17)) = Y4_12 at hg hB ⊢
        clear hX
        replace g3 := g3.kept b6 (by simp [notInt]) hg
        replace g4 := g4.kept b6 (by simp [notInt]) hg
        replace b6 := hB
        replace hG := below_only hG hg (by omega) sG
        replace sG := hG.size
        clear hg hB
        refine hK.out _ _ ((b5.below hG).and6 ((b1.below hG).all3)) (fun hHeld => ?_)
        clear hK K
        (try simp only [getElem_toArray, getElem_cons_succ, getElem_cons_zero, Act.put, setIfInBounds_toArray, set_cons_zero, set_cons_succ])
        refine tk 11 ?_ rfl (by kernel_rfl) (by kernel_rfl) (by kernel_rfl) (fun _ _ _ h => h) (by rfl) ?_ (by assumption) ?_
        rotate_left
        · (intro w hSw; (try dsimp only at hSw); go_simp; (try with_reducible rfl))
        (try simp only [getElem_toArray, getElem_cons_succ, getElem_cons_zero, Act.put, setIfInBounds_toArray, set_cons_zero, set_cons_succ])
        refine wpAnyH_done (by kernel_rfl) ?_ _
        refine NoPanic.normal ?_
        go_wp2_with fail
        go_meet
        exact ⟨y4_1.heap.size, s16, A16, n16, c16, D16, m16, e16, s17, A17, n17, c17, D17, m17, e17, rfl, by rw [← at_x z2 V0.out.1]; exact g3, by rw [← at_y z2 V0.out.1]; exact g4, b6, (by omega), hG⟩
    · go_simp
      obtain ⟨y4_13, hV, b6, hb9, szy4_13⟩ := boxes1 v4 #[.bool false, .slice none 0 0, .slice none 0 0, .bool false, .slice none 0 0, .slice none 0 0] 54
      rw [hV]
      clear hV
      have gly4_13 : W3.heap.size ≤ v4.heap.size := sG
      replace szy4_13 : v4.heap.size < y4_13.heap.size := by omega
      replace hG := hG.trans (hb9.mono sG)
      replace sG := hG.size
      clear hb9
      refine hK.out _ _ ((b5.below hG).and6 ((b1.below hG).all3)) (fun hHeld => ?_)
      clear hK K
      (try simp only [getElem_toArray, getElem_cons_succ, getElem_cons_zero, Act.put, setIfInBounds_toArray, set_cons_zero, set_cons_succ])
      refine rd1 3 (by kernel_rfl) rfl (fun K hK => ?_)
      go_simp
      go_at_call 92
      refine (lacrossat_v (h0.below hG) (h1.below hG) (h.below hG) hL).mono ?_
      rintro e y4_14 ⟨s6, A6, n6, c6, s7, A7, n7, c7, s8, A8, n8, c8, rfl, g6, g7, g8, hb9⟩
      have szy4_14 := hb9.size
      replace b6 := b6.below hb9
      replace hG := hG.trans (hb9.mono sG)
      replace sG := hG.size
      clear hb9
      go_wp2_with fail
      refine hK.out _ _ ((b5.below hG).and6 ((b1.below hG).all3)) (fun hHeld => ?_)
      clear hK K
      (try simp only [getElem_toArray, getElem_cons_succ, getElem_cons_zero, Act.put, setIfInBounds_toArray, set_cons_zero, set_cons_succ])
      refine rd1 4 (by kernel_rfl) rfl (fun K hK => ?_)
      go_simp
      go_at_call 91
      refine (dcross_v ((h0.below hG).ri.more hM) ((h1.below hG).ri.more hM) ((h2.below hG).ri.more hM) g6.ri g7.ri g8.ri (by omega)).mono ?_
      rintro e y4_15 ⟨s9, A9, n9, c9, s10, A10, n10, c10, s11, A11, n11, c11, rfl, g9, g10, g11, hb9⟩
      have szy4_15 := hb9.size
      replace g6 := g6.below hb9
      replace g7 := g7.below hb9
      replace g8 := g8.below hb9
      replace b6 := b6.below hb9
      replace hG := hG.trans (hb9.mono sG)
      replace sG := hG.size
      clear hb9
      clear g6
      clear g7
      clear g8
      go_wp2_with fail
      refine hK.out _ _ ((b5.below hG).and6 ((b1.below hG).all3)) (fun hHeld => ?_)
      clear hK K
      (try simp only [getElem_toArray, getElem_cons_succ, getElem_cons_zero, Act.put, setIfInBounds_toArray, set_cons_zero, set_cons_succ])
      refine rd1 5 (by kernel_rfl) rfl (fun K hK => ?_)
      go_simp
      go_at_call 93
      refine (lpoint_v g9.ri g10.ri g11.ri (at_den V0.out.1 (by have := q0.den_pos; omega)) (by omega)).mono ?_
      rintro e y4_16 ⟨s16, A16, n16, c16, D16, m16, e16, s17, A17, n17, c17, D17, m17, e17, rfl, g3, g4, hb9⟩
      have szy4_16 := hb9.size
      replace g9 := g9.below hb9
      replace g10 := g10.below hb9
      replace g11 := g11.below hb9
      replace b6 := b6.below hb9
      replace hG := hG.trans (hb9.mono sG)
      replace sG := hG.size
      clear hb9
      clear g9
      clear g10
      clear g11
      go_wp2_with fail
      refine hK.out _ _ ((b5.below hG).and6 ((b1.below hG).all3)) (fun hHeld => ?_)
      clear hK K
      (try simp only [getElem_toArray, getElem_cons_succ, getElem_cons_zero, Act.put, setIfInBounds_toArray, set_cons_zero, set_cons_succ])
      refine tk 6 ?_ rfl (by kernel_rfl) (by kernel_rfl) (by kernel_rfl) (fun _ _ _ h => h) (by rfl) ?_ (by assumption) ?_
      rotate_left
      · (intro w hSw; (try dsimp only at hSw); go_simp; (try with_reducible rfl))
      (try simp only [getElem_toArray, getElem_cons_succ, getElem_cons_zero, Act.put, setIfInBounds_toArray, set_cons_zero, set_cons_succ])
      refine tk 7 ?_ rfl (by kernel_rfl) (by kernel_rfl) (by kernel_rfl) (fun _ _ _ h => h) (by rfl) ?_ (by assumption) ?_
      rotate_left
      · (intro w hSw; (try dsimp only at hSw); go_simp; (try with_reducible rfl))
      (try simp only [getElem_toArray, getElem_cons_succ, getElem_cons_zero, Act.put, setIfInBounds_toArray, set_cons_zero, set_cons_succ])
      refine tk 8 ?_ rfl (by kernel_rfl) (by kernel_rfl) (by kernel_rfl) (fun _ _ _ h => h) (by rfl) ?_ (by assumption) ?_
      rotate_left
      · (intro w hSw; (try dsimp only at hSw); go_simp; (try with_reducible rfl))
      (try simp only [getElem_toArray, getElem_cons_succ, getElem_cons_zero, Act.put, setIfInBounds_toArray, set_cons_zero, set_cons_succ])
      have rb60 := b6.cell 0 _ rfl
      have qb60 := b6.frozen 0
      have rb61 := b6.cell 1 _ rfl
      have qb61 := b6.frozen 1
      have rb62 := b6.cell 2 _ rfl
      have qb62 := b6.frozen 2
      have rb63 := b6.cell 3 _ rfl
      have qb63 := b6.frozen 3
      have rb64 := b6.cell 4 _ rfl
      have qb64 := b6.frozen 4
      have rb65 := b6.cell 5 _ rfl
      have qb65 := b6.frozen 5
      refine rd1 10 (by kernel_rfl) rfl (fun K hK => ?_)
      go_simp
      clear rb60 qb60
      clear rb61 qb61
      clear rb62 qb62
      clear rb63 qb63
      clear rb64 qb64
      clear rb65 qb65
      have hg := only_store6 y4_16 (v4.heap.size) (.bool s16) (.slice A16 n16 c16) (.slice D16 m16 e16) (.bool s17) (.slice A17 n17 c17) (.slice D17 m17 e17)
      have hB := b6.stored6 (.bool s16) (.slice A16 n16 c16) (.slice D16 m16 e16) (.bool s17) (.slice A17 n17 c17) (.slice D17 m17 e17)
      generalize hX : ((((((y4_16.setCell ⟨v4.heap.size, 0, none⟩ (.bool s16)).setCell ⟨v4.heap.size, 1, none⟩ (.slice A16 n16 c16)).setCell ⟨v4.heap.size, 2, none⟩ (.slice D16 m16 e16)).setCell ⟨v4.heap.size, 3, none⟩ (.bool s17)).setCell ⟨v4.heap.size, 4, none⟩ (.slice A17 n17 c17)).setCell ⟨v4.heap.size, 5, none⟩ (.slice D17 m17 e17)) = Y4_17 at hg hB ⊢
      clear hX
      replace g3 := g3.kept b6 (by simp [notInt]) hg
      replace g4 := g4.kept b6 (by simp [notInt]) hg
      replace b6 := hB
      replace hG := below_only hG hg (by omega) sG
      replace sG := hG.size
      clear hg hB
      refine hK.out _ _ ((b5.below hG).and6 ((b1.below hG).all3)) (fun hHeld => ?_)
      clear hK K
      (try simp only [getElem_toArray, getElem_cons_succ, getElem_cons_zero, Act.put, setIfInBounds_toArray, set_cons_zero, set_cons_succ])
      refine tk 11 ?_ rfl (by kernel_rfl) (by kernel_rfl) (by kernel_rfl) (fun _ _ _ h => h) (by rfl) ?_ (by assumption) ?_
      rotate_left
      · (intro w hSw; (try dsimp only at hSw); go_simp; (try with_reducible rfl))
      (try simp only [getElem_toArray, getElem_cons_succ, getElem_cons_zero, Act.put, setIfInBounds_toArray, set_cons_zero, set_cons_succ])
      refine wpAnyH_done (by kernel_rfl) ?_ _
      refine NoPanic.normal ?_
      go_wp2_with fail
      go_meet
      exact ⟨v4.heap.size, s16, A16, n16, c16, D16, m16, e16, s17, A17, n17, c17, D17, m17, e17, rfl, by rw [← at_x z2 V0.out.1]; exact g3, by rw [← at_y z2 V0.out.1]; exact g4, b6, (by omega), hG⟩
  obtain ⟨g4_0, s16, A16, n16, c16, D16, m16, e16, s17, A17, n17, c17, D17, m17, e17, rfl, g3, g4, b6, glg4_0, hG⟩ := hcut
  replace h0 := h0.below hG
  replace h1 := h1.below hG
  replace h2 := h2.below hG
  replace h := h.below hG
  replace b0 := b0.below hG
  replace b1 := b1.below hG
  replace b9 := b9.below hG
  replace b5 := b5.below hG
  replace H0 := H0.trans (hG.mono H0.size)
  clear hG
  obtain ⟨cb60, cb61, cb62, cb63, cb64, cb65⟩ := b6.cells6
  obtain ⟨cb90, yb90, cb91, yb91, cb92, yb92, cb93, yb93, cb94, yb94, cb95, yb95⟩ := b9.cf6
  go_wp2_with fail
  clear cb60 cb61 cb62 cb63 cb64 cb65 cb90 yb90 cb91 yb91 cb92 yb92 cb93 yb93 cb94 yb94 cb95 yb95
  have hg := only_store6 wc (w.heap.size + 1 + 1) (.bool s16) (.slice A16 n16 c16) (.slice D16 m16 e16) (.bool s17) (.slice A17 n17 c17) (.slice D17 m17 e17)
  have hB := b9.stored6 (.bool s16) (.slice A16 n16 c16) (.slice D16 m16 e16) (.bool s17) (.slice A17 n17 c17) (.slice D17 m17 e17)
  generalize hX : ((((((wc.setCell ⟨w.heap.size + 1 + 1, 0, none⟩ (.bool s16)).setCell ⟨w.heap.size + 1 + 1, 1, none⟩ (.slice A16 n16 c16)).setCell ⟨w.heap.size + 1 + 1, 2, none⟩ (.slice D16 m16 e16)).setCell ⟨w.heap.size + 1 + 1, 3, none⟩ (.bool s17)).setCell ⟨w.heap.size + 1 + 1, 4, none⟩ (.slice A17 n17 c17)).setCell ⟨w.heap.size + 1 + 1, 5, none⟩ (.slice D17 m17 e17)) = X6 at hg hB ⊢
  clear hX
  replace h0 := h0.kept b9 (by simp [notInt]) hg
  replace h1 := h1.kept b9 (by simp [notInt]) hg
  replace h2 := h2.kept b9 (by simp [notInt]) hg
  replace h := h.kept b9 (by simp [notInt]) hg
  replace g3 := g3.kept b9 (by simp [notInt]) hg
  replace g4 := g4.kept b9 (by simp [notInt]) hg
  replace b0 := b0.other hg (by omega)
  replace b1 := b1.other hg (by omega)
  replace b5 := b5.other hg (by omega)
  replace b6 := b6.other hg (by omega)
  replace b9 := hB
  replace H0 := below_only H0 hg (by omega) H0.size
  clear hg hB
  refine bodyPost_ret (ret_point rfl rfl b9) rfl ?_
  exact ⟨_, _, _, _, _, _, _, _, _, _, _, _, _, _, rfl, g3, g4, H0⟩
set_option maxRecDepth 100000 in
set_option maxHeartbeats 4000000 in
theorem lparam_v (h0 : NI w s0 (.slice A0 n0 c0) z0 L) (h1 : NI w s1 (.slice A1 n1 c1) z1 L) (h2 : NI w s2 (.slice A2 n2 c2) z2 L) (v0 : VL z0 z1 z2) (h : NQ w s20 (.slice A20 n20 c20) (.slice D20 m20 e20) q0 L) (h' : NQ w s21 (.slice A21 n21 c21) (.slice D21 m21 e21) q1 L) (hL : L ≤ 10000) :
    Calls Tryz.prog 37 #[.agg #[.bool s0, .slice A0 n0 c0, .bool s1, .slice A1 n1 c1, .bool s2, .slice A2 n2 c2], .agg #[.bool s20, .slice A20 n20 c20, .slice D20 m20 e20, .bool s21, .slice A21 n21 c21, .slice D21 m21 e21]] w fun e w' => ∃ s15 A15 n15 c15 D15 m15 e15, e = .returned (.agg #[.bool s15, .slice A15 n15 c15, .slice D15 m15 e15]) ∧ NQ w' s15 (.slice A15 n15 c15) (.slice D15 m15 e15) (parQ z0 z1 q0 q1) (2 * (2 * max L 2) + 2 + 2 * max L 2) ∧ Below w.heap.size w w' := by
  have HPD := Lib.hid (fun (d : Int) (hd : 0 < d) => show (z1 * z1 + -z0 * -z0 + 0 * 0) * d ≠ 0 from by have := Int.mul_pos (sqd_pos v0.1) hd; rw [Int.zero_mul, Int.add_zero]; omega)
  have V0 := Lib.hid v0
  clear v0
  have hM : L ≤ 2 * max L 2 := by omega
  have hM2 : 2 * (2 * max L 2) + 2 ≤ 2 * (2 * max L 2) + 2 + 2 * max L 2 := by omega
  go_enter Tryz.func37, Tryz.ntmps37
  go_wp2_with fail
  obtain ⟨W0, hW, b0, b1, b9, hbW, hszW0⟩ := boxes3 w #[.bool s0, .slice A0 n0 c0, .bool s1, .slice A1 n1 c1, .bool s2, .slice A2 n2 c2] #[.bool s20, .slice A20 n20 c20, .slice D20 m20 e20, .bool s21, .slice A21 n21 c21, .slice D21 m21 e21] #[.bool false, .slice none 0 0, .slice none 0 0] 30 54 52
  rw [hW]
  clear hW
  replace h0 := h0.below hbW
  replace h1 := h1.below hbW
  replace h2 := h2.below hbW
  replace h := h.below hbW
  replace h' := h'.below hbW
  have H0 := hbW
  clear hbW
  obtain ⟨cb00, cb01, cb02, cb03, cb04, cb05⟩ := b0.cells6
  go_wp2_with fail
  clear cb00 cb01 cb02 cb03 cb04 cb05
  refine (lvalid_v h0 h1 h2 V0.out (by omega)).mono ?_
  rintro e w1 ⟨rfl, hb⟩
  replace h0 := h0.below hb
  replace h1 := h1.below hb
  replace h2 := h2.below hb
  replace h := h.below hb
  replace h' := h'.below hb
  replace b0 := b0.below hb
  replace b1 := b1.below hb
  replace b9 := b9.below hb
  replace H0 := H0.trans (hb.mono H0.size)
  clear hb
  obtain ⟨cb00, cb01, cb02, cb03, cb04, cb05⟩ := b0.cells6
  obtain ⟨cb10, cb11, cb12, cb13, cb14, cb15⟩ := b1.cells6
  go_wp2_with fail
  clear cb00 cb01 cb02 cb03 cb04 cb05 cb10 cb11 cb12 cb13 cb14 cb15
  have lkb0 := b0.lt
  have lkb1 := b1.lt
  have lkb9 := b9.lt
  go_cut [5, 6] from 7 (fun s_5 s_6 wx => ∃ g70 g71 ua ub ud s6 A6 n6 c6 s7 A7 n7 c7 s8 A8 n8 c8 s9 A9 n9 c9 s10 A10 n10 c10 s11 A11 n11 c11, s_5 = .pointer (some ⟨g70, 0, none⟩) ∧ s_6 = .pointer (some ⟨g71, 0, none⟩) ∧ NI wx s6 (.slice A6 n6 c6) (z1) L ∧ NI wx s7 (.slice A7 n7 c7) (-z0) L ∧ NI wx s8 (.slice A8 n8 c8) (0) L ∧ NI wx s9 (.slice A9 n9 c9) ua (2 * max L 2) ∧ NI wx s10 (.slice A10 n10 c10) ub (2 * max L 2) ∧ NI wx s11 (.slice A11 n11 c11) ud (2 * max L 2) ∧ Hom q0 q1 ua ub ud ∧ Box wx g70 #[.bool s6, .slice A6 n6 c6, .bool s7, .slice A7 n7 c7, .bool s8, .slice A8 n8 c8] 95 ∧ Box wx g71 #[.bool s9, .slice A9 n9 c9, .bool s10, .slice A10 n10 c10, .bool s11, .slice A11 n11 c11] 106 ∧ w1.heap.size ≤ g70 ∧ w1.heap.size ≤ g71 ∧ Below w1.heap.size w1 wx)
  case first =>
    have lcb0_2 := b0.lt
    have lcb1_2 := b1.lt
    have lcb9_2 := b9.lt
    have hG := drawn_below w1
    refine wp_region_noPanic ?_
    refine wp_region_anyd (by kernel_rfl) ?_
    generalize w1.drew = v2 at hG ⊢
    refine wpAny_of_F (S := (fun V => V.cell? ⟨w.heap.size, 0, none⟩ = some (.bool s0) ∧ V.cell? ⟨w.heap.size, 1, none⟩ = some (.slice A0 n0 c0) ∧ V.cell? ⟨w.heap.size, 2, none⟩ = some (.bool s1) ∧ V.cell? ⟨w.heap.size, 3, none⟩ = some (.slice A1 n1 c1) ∧ V.cell? ⟨w.heap.size, 4, none⟩ = some (.bool s2) ∧ V.cell? ⟨w.heap.size, 5, none⟩ = some (.slice A2 n2 c2) ∧ V.cell? ⟨w.heap.size + 1, 0, none⟩ = some (.bool s20) ∧ V.cell? ⟨w.heap.size + 1, 1, none⟩ = some (.slice A20 n20 c20) ∧ V.cell? ⟨w.heap.size + 1, 2, none⟩ = some (.slice D20 m20 e20) ∧ V.cell? ⟨w.heap.size + 1, 3, none⟩ = some (.bool s21) ∧ V.cell? ⟨w.heap.size + 1, 4, none⟩ = some (.slice A21 n21 c21) ∧ V.cell? ⟨w.heap.size + 1, 5, none⟩ = some (.slice D21 m21 e21))) (F := (fun j => j == 7 || j == 8)) _ _ _ _ ?_
    refine wpAnyF_take (i := 0) (v := ?_) (fun j => j == 1 || j == 2 || j == 4 || j == 7 || j == 8) rfl (by kernel_rfl) (by kernel_rfl) (by kernel_rfl) (by kernel_rfl) (fun j hj => by have h6 : 9 ≤ j := hj; simp; omega) (fun _ _ _ h => h) (Or.inl ⟨by rfl, ?_⟩) ((b0.below hG).and6 ((b1.below hG).all6)) ?_
    rotate_left
    · (intro w hSw; (try dsimp only at hSw); go_simp; (try with_reducible rfl))
    (try simp only [getElem_toArray, getElem_cons_zero, Act.put, setIfInBounds_toArray, set_cons_zero, set_cons_succ])
    refine wpAnyF_take (i := 3) (v := ?_) (fun j => j == 4 || j == 7 || j == 8) rfl (by kernel_rfl) (by kernel_rfl) (by kernel_rfl) (by kernel_rfl) (fun j hj => by have h6 : 9 ≤ j := hj; simp; omega) (fun _ _ _ h => h) (Or.inl ⟨by rfl, ?_⟩) ((b0.below hG).and6 ((b1.below hG).all6)) ?_
    rotate_left
    · (intro w hSw; (try dsimp only at hSw); go_simp; (try with_reducible rfl))
    (try simp only [getElem_toArray, getElem_cons_succ, getElem_cons_zero, Act.put, setIfInBounds_toArray, set_cons_zero, set_cons_succ])
    refine wpAnyF_name (n' := 7) (l' := #[true, false, false, true, false, false, false, false, false]) (by kernel_rfl) (by kernel_rfl) (fun Ac_ hA => ?_)
    refine wpAnyF_phase (rs := [1, 2, 4, 5, 6]) (full := #[true, true, true, true, true, true, true, false, false]) (states := [#[true, false, false, true, false, false, false, false, false], #[true, true, false, true, false, false, false, false, false], #[true, false, false, true, false, true, false, false, false], #[true, false, false, true, false, false, true, false, false], #[true, true, false, true, false, false, true, false, false], #[true, false, false, true, false, true, true, false, false], #[true, true, false, true, false, true, true, false, false], #[true, true, true, true, false, true, true, false, false], #[true, true, true, true, true, true, true, false, false], #[true, true, true, true, false, false, true, false, false], #[true, true, true, true, true, false, true, false, false], #[true, true, false, true, false, true, false, false, false], #[true, true, true, true, false, true, false, false, false], #[true, true, true, true, true, true, false, false, false], #[true, true, true, true, false, false, false, false, false], #[true, true, true, true, true, false, false, false, false]]) (k := 2) (I := fun listed a w => ∃ (y1_ y2_ y4_ y5_ y6_ : Value), a = (((((Ac_.put (some 12) y1_).put (some 13) y2_).put (some 15) y4_).put (some 5) y5_).put (some 6) y6_) ∧ Below w1.heap.size w1 w ∧ (listed.getD 1 false = true → y1_ = .agg #[.bool s0, .slice A0 n0 c0, .bool s1, .slice A1 n1 c1, .bool s2, .slice A2 n2 c2]) ∧ (listed.getD 2 false = true → ∃ s6 A6 n6 c6 s7 A7 n7 c7 s8 A8 n8 c8, y2_ = .agg #[.bool s6, .slice A6 n6 c6, .bool s7, .slice A7 n7 c7, .bool s8, .slice A8 n8 c8] ∧ NI w s6 (.slice A6 n6 c6) (z1) L ∧ NI w s7 (.slice A7 n7 c7) (-z0) L ∧ NI w s8 (.slice A8 n8 c8) (0) L) ∧ (listed.getD 4 false = true → ∃ ua ub ud s9 A9 n9 c9 s10 A10 n10 c10 s11 A11 n11 c11, y4_ = .agg #[.bool s9, .slice A9 n9 c9, .bool s10, .slice A10 n10 c10, .bool s11, .slice A11 n11 c11] ∧ NI w s9 (.slice A9 n9 c9) ua (2 * max L 2) ∧ NI w s10 (.slice A10 n10 c10) ub (2 * max L 2) ∧ NI w s11 (.slice A11 n11 c11) ud (2 * max L 2) ∧ Hom q0 q1 ua ub ud) ∧ (listed.getD 5 false = true → ∃ g0_, y5_ = .pointer (some ⟨g0_, 0, none⟩) ∧ Box w g0_ #[.bool false, .slice none 0 0, .bool false, .slice none 0 0, .bool false, .slice none 0 0] 95 ∧ w1.heap.size ≤ g0_) ∧ (listed.getD 6 false = true → ∃ g1_, y6_ = .pointer (some ⟨g1_, 0, none⟩) ∧ Box w g1_ #[.bool false, .slice none 0 0, .bool false, .slice none 0 0, .bool false, .slice none 0 0] 106 ∧ w1.heap.size ≤ g1_) ∧ (listed.getD 5 false = true → listed.getD 6 false = true → y5_ ≠ y6_)) (by kernel_rfl) (by kernel_rfl) ?_ ?_ _ _ _ _ (by kernel_rfl) (by kernel_rfl) ⟨Ac_.tmps.getD 12 undef, Ac_.tmps.getD 13 undef, Ac_.tmps.getD 15 undef, Ac_.tmps.getD 5 undef, Ac_.tmps.getD 6 undef, by subst hA; kernel_rfl, hG, fun h => (by cases h), fun h => (by cases h), fun h => (by cases h), fun h => (by cases h), fun h => (by cases h), fun h => (by cases h)⟩
    · refine (AllStepsF.cons (i := 1) (o := _) rfl rfl ?_ (AllStepsF.cons (i := 2) (o := _) rfl rfl ?_ (AllStepsF.cons (i := 4) (o := _) rfl rfl ?_ (AllStepsF.cons (i := 5) (o := _) rfl rfl ?_ (AllStepsF.cons (i := 6) (o := _) rfl rfl ?_ AllStepsF.nil)))))
      · rintro listed a wx ⟨y1_, y2_, y4_, y5_, y6_, rfl, hG, H1_, H2_, H4_, H5_, H6_, D5_6⟩ hi K hK
        subst hA
        (try simp only [Act.put, List.setIfInBounds_toArray, List.set_cons_zero, List.set_cons_succ])
        go_simp
        go_at_call 82
        refine (lcoef_v).mono ?_
        rintro e X ⟨rfl, hb9⟩
        go_wp2_with fail
        have hG9 := hG.trans (hb9.mono hG.size)
        refine hK.out _ _ ((b0.below hG9).and6 ((b1.below hG9).all6)) ?_
        clear hK K
        exact ⟨_, y2_, y4_, y5_, y6_, by kernel_rfl, hG9, fun _ => rfl, fun h => by obtain ⟨s6, A6, n6, c6, s7, A7, n7, c7, s8, A8, n8, c8, e_, g6', g7', g8'⟩ := H2_ (set_dep (by decide) h); exact ⟨s6, A6, n6, c6, s7, A7, n7, c7, s8, A8, n8, c8, e_, g6'.below hb9, g7'.below hb9, g8'.below hb9⟩, fun h => by obtain ⟨ua, ub, ud, s9, A9, n9, c9, s10, A10, n10, c10, s11, A11, n11, c11, e_, g9', g10', g11', hm'⟩ := H4_ (set_dep (by decide) h); exact ⟨ua, ub, ud, s9, A9, n9, c9, s10, A10, n10, c10, s11, A11, n11, c11, e_, g9'.below hb9, g10'.below hb9, g11'.below hb9, hm'⟩, fun h => by obtain ⟨g0_, e_, bx0', hl0'⟩ := H5_ (set_dep (by decide) h); exact ⟨g0_, e_, bx0'.below hb9, hl0'⟩, fun h => by obtain ⟨g1_, e_, bx1', hl1'⟩ := H6_ (set_dep (by decide) h); exact ⟨g1_, e_, bx1'.below hb9, hl1'⟩, fun h h9 => D5_6 (set_dep (by decide) h) (set_dep (by decide) h9)⟩
      · rintro listed a wx ⟨y1_, y2_, y4_, y5_, y6_, rfl, hG, H1_, H2_, H4_, H5_, H6_, D5_6⟩ hi K hK
        have e1_ : listed.getD 1 false = true := ready_dep hi rfl 1 (by kernel_rfl)
        obtain rfl := H1_ e1_
        subst hA
        (try simp only [Act.put, List.setIfInBounds_toArray, List.set_cons_zero, List.set_cons_succ])
        go_simp
        go_at_call 94
        refine (lacross_v (h0.below hG) (h1.below hG) (by omega)).mono ?_
        rintro e X ⟨s6, A6, n6, c6, s7, A7, n7, c7, s8, A8, n8, c8, rfl, g6, g7, g8, hb9⟩
        go_wp2_with fail
        have hG9 := hG.trans (hb9.mono hG.size)
        refine hK.out _ _ ((b0.below hG9).and6 ((b1.below hG9).all6)) ?_
        clear hK K
        exact ⟨_, _, y4_, y5_, y6_, by kernel_rfl, hG9, fun _ => rfl, fun _ => ⟨s6, A6, n6, c6, s7, A7, n7, c7, s8, A8, n8, c8, rfl, g6, g7, g8⟩, fun h => by obtain ⟨ua, ub, ud, s9, A9, n9, c9, s10, A10, n10, c10, s11, A11, n11, c11, e_, g9', g10', g11', hm'⟩ := H4_ (set_dep (by decide) h); exact ⟨ua, ub, ud, s9, A9, n9, c9, s10, A10, n10, c10, s11, A11, n11, c11, e_, g9'.below hb9, g10'.below hb9, g11'.below hb9, hm'⟩, fun h => by obtain ⟨g0_, e_, bx0', hl0'⟩ := H5_ (set_dep (by decide) h); exact ⟨g0_, e_, bx0'.below hb9, hl0'⟩, fun h => by obtain ⟨g1_, e_, bx1', hl1'⟩ := H6_ (set_dep (by decide) h); exact ⟨g1_, e_, bx1'.below hb9, hl1'⟩, fun h h9 => D5_6 (set_dep (by decide) h) (set_dep (by decide) h9)⟩
      · rintro listed a wx ⟨y1_, y2_, y4_, y5_, y6_, rfl, hG, H1_, H2_, H4_, H5_, H6_, D5_6⟩ hi K hK
        subst hA
        (try simp only [Act.put, List.setIfInBounds_toArray, List.set_cons_zero, List.set_cons_succ])
        go_simp
        go_at_call 67
        refine (lhomog_v (h.below hG) (h'.below hG) (by omega)).mono ?_
        rintro e X ⟨ua, ub, ud, s9, A9, n9, c9, s10, A10, n10, c10, s11, A11, n11, c11, rfl, g9, g10, g11, hm, hb9⟩
        go_wp2_with fail
        have hG9 := hG.trans (hb9.mono hG.size)
        refine hK.out _ _ ((b0.below hG9).and6 ((b1.below hG9).all6)) ?_
        clear hK K
        exact ⟨y1_, y2_, _, y5_, y6_, by kernel_rfl, hG9, fun h => H1_ (set_dep (by decide) h), fun h => by obtain ⟨s6, A6, n6, c6, s7, A7, n7, c7, s8, A8, n8, c8, e_, g6', g7', g8'⟩ := H2_ (set_dep (by decide) h); exact ⟨s6, A6, n6, c6, s7, A7, n7, c7, s8, A8, n8, c8, e_, g6'.below hb9, g7'.below hb9, g8'.below hb9⟩, fun _ => ⟨ua, ub, ud, s9, A9, n9, c9, s10, A10, n10, c10, s11, A11, n11, c11, rfl, g9, g10, g11, hm⟩, fun h => by obtain ⟨g0_, e_, bx0', hl0'⟩ := H5_ (set_dep (by decide) h); exact ⟨g0_, e_, bx0'.below hb9, hl0'⟩, fun h => by obtain ⟨g1_, e_, bx1', hl1'⟩ := H6_ (set_dep (by decide) h); exact ⟨g1_, e_, bx1'.below hb9, hl1'⟩, fun h h9 => D5_6 (set_dep (by decide) h) (set_dep (by decide) h9)⟩
      · rintro listed a wx ⟨y1_, y2_, y4_, y5_, y6_, rfl, hG, H1_, H2_, H4_, H5_, H6_, D5_6⟩ hi K hK
        subst hA
        (try simp only [Act.put, List.setIfInBounds_toArray, List.set_cons_zero, List.set_cons_succ])
        go_simp
        obtain ⟨X, hV, bx0, hb9, sz9⟩ := boxes1 wx #[.bool false, .slice none 0 0, .bool false, .slice none 0 0, .bool false, .slice none 0 0] 95
        rw [hV]
        clear hV
        have hl0 : w1.heap.size ≤ wx.heap.size := hG.size
        have hG9 := hG.trans (hb9.mono hG.size)
        refine hK.out _ _ ((b0.below hG9).and6 ((b1.below hG9).all6)) ?_
        clear hK K
        exact ⟨y1_, y2_, y4_, _, y6_, by kernel_rfl, hG9, fun h => H1_ (set_dep (by decide) h), fun h => by obtain ⟨s6, A6, n6, c6, s7, A7, n7, c7, s8, A8, n8, c8, e_, g6', g7', g8'⟩ := H2_ (set_dep (by decide) h); exact ⟨s6, A6, n6, c6, s7, A7, n7, c7, s8, A8, n8, c8, e_, g6'.below hb9, g7'.below hb9, g8'.below hb9⟩, fun h => by obtain ⟨ua, ub, ud, s9, A9, n9, c9, s10, A10, n10, c10, s11, A11, n11, c11, e_, g9', g10', g11', hm'⟩ := H4_ (set_dep (by decide) h); exact ⟨ua, ub, ud, s9, A9, n9, c9, s10, A10, n10, c10, s11, A11, n11, c11, e_, g9'.below hb9, g10'.below hb9, g11'.below hb9, hm'⟩, fun _ => ⟨_, rfl, bx0, hl0⟩, fun h => by obtain ⟨g1_, e_, bx1', hl1'⟩ := H6_ (set_dep (by decide) h); exact ⟨g1_, e_, bx1'.below hb9, hl1'⟩, fun _ h => by obtain ⟨g1_, e_, bx_, _⟩ := H6_ (set_dep (by decide) h); rw [e_]; have lx_ := bx_.lt; intro heq; injection heq with heq; injection heq with heq; injection heq with heq; omega⟩
      · rintro listed a wx ⟨y1_, y2_, y4_, y5_, y6_, rfl, hG, H1_, H2_, H4_, H5_, H6_, D5_6⟩ hi K hK
        subst hA
        (try simp only [Act.put, List.setIfInBounds_toArray, List.set_cons_zero, List.set_cons_succ])
        go_simp
        obtain ⟨X, hV, bx1, hb9, sz9⟩ := boxes1 wx #[.bool false, .slice none 0 0, .bool false, .slice none 0 0, .bool false, .slice none 0 0] 106
        rw [hV]
        clear hV
        have hl1 : w1.heap.size ≤ wx.heap.size := hG.size
        have hG9 := hG.trans (hb9.mono hG.size)
        refine hK.out _ _ ((b0.below hG9).and6 ((b1.below hG9).all6)) ?_
        clear hK K
        exact ⟨y1_, y2_, y4_, y5_, _, by kernel_rfl, hG9, fun h => H1_ (set_dep (by decide) h), fun h => by obtain ⟨s6, A6, n6, c6, s7, A7, n7, c7, s8, A8, n8, c8, e_, g6', g7', g8'⟩ := H2_ (set_dep (by decide) h); exact ⟨s6, A6, n6, c6, s7, A7, n7, c7, s8, A8, n8, c8, e_, g6'.below hb9, g7'.below hb9, g8'.below hb9⟩, fun h => by obtain ⟨ua, ub, ud, s9, A9, n9, c9, s10, A10, n10, c10, s11, A11, n11, c11, e_, g9', g10', g11', hm'⟩ := H4_ (set_dep (by decide) h); exact ⟨ua, ub, ud, s9, A9, n9, c9, s10, A10, n10, c10, s11, A11, n11, c11, e_, g9'.below hb9, g10'.below hb9, g11'.below hb9, hm'⟩, fun h => by obtain ⟨g0_, e_, bx0', hl0'⟩ := H5_ (set_dep (by decide) h); exact ⟨g0_, e_, bx0'.below hb9, hl0'⟩, fun _ => ⟨_, rfl, bx1, hl1⟩, fun h _ => by obtain ⟨g0_, e_, bx_, _⟩ := H5_ (set_dep (by decide) h); rw [e_]; have lx_ := bx_.lt; intro heq; injection heq with heq; injection heq with heq; injection heq with heq; omega⟩
    · rintro a wf ⟨y1_, y2_, y4_, y5_, y6_, rfl, hG, H1_, H2_, H4_, H5_, H6_, D5_6⟩
      have d5_6 := D5_6 rfl rfl
      obtain rfl := H1_ rfl
      obtain ⟨s6, A6, n6, c6, s7, A7, n7, c7, s8, A8, n8, c8, rfl, g6, g7, g8⟩ := H2_ rfl
      obtain ⟨ua, ub, ud, s9, A9, n9, c9, s10, A10, n10, c10, s11, A11, n11, c11, rfl, g9, g10, g11, hm⟩ := H4_ rfl
      obtain ⟨g0_, rfl, bx0, hl0⟩ := H5_ rfl
      obtain ⟨g1_, rfl, bx1, hl1⟩ := H6_ rfl
      clear D5_6
      subst hA
      (try simp only [Act.put, List.setIfInBounds_toArray, List.set_cons_zero, List.set_cons_succ])
      have hne01 : g0_ ≠ g1_ := fun h => d5_6 (by rw [h])
      clear d5_6
      have H0 := hG
      obtain ⟨cbx00, ybx00, cbx01, ybx01, cbx02, ybx02, cbx03, ybx03, cbx04, ybx04, cbx05, ybx05⟩ := bx0.cf6
      refine wpAnyF_last (i := 7) (by kernel_rfl) rfl rfl (fun K hK => ?_)
      go_simp
      refine hK.out _ _ ?_
      clear hK K
      (try simp only [List.setIfInBounds_toArray, List.set_cons_zero, List.set_cons_succ])
      clear cbx00 ybx00 cbx01 ybx01 cbx02 ybx02 cbx03 ybx03 cbx04 ybx04 cbx05 ybx05
      have hg := only_store6 wf (g0_) (.bool s6) (.slice A6 n6 c6) (.bool s7) (.slice A7 n7 c7) (.bool s8) (.slice A8 n8 c8)
      have hB := bx0.stored6 (.bool s6) (.slice A6 n6 c6) (.bool s7) (.slice A7 n7 c7) (.bool s8) (.slice A8 n8 c8)
      generalize hX : ((((((wf.setCell ⟨g0_, 0, none⟩ (.bool s6)).setCell ⟨g0_, 1, none⟩ (.slice A6 n6 c6)).setCell ⟨g0_, 2, none⟩ (.bool s7)).setCell ⟨g0_, 3, none⟩ (.slice A7 n7 c7)).setCell ⟨g0_, 4, none⟩ (.bool s8)).setCell ⟨g0_, 5, none⟩ (.slice A8 n8 c8)) = X53 at hg hB ⊢
      clear hX
      replace g6 := g6.kept bx0 (by simp [notInt]) hg
      replace g7 := g7.kept bx0 (by simp [notInt]) hg
      replace g8 := g8.kept bx0 (by simp [notInt]) hg
      replace g9 := g9.kept bx0 (by simp [notInt]) hg
      replace g10 := g10.kept bx0 (by simp [notInt]) hg
      replace g11 := g11.kept bx0 (by simp [notInt]) hg
      replace bx1 := bx1.other hg (by omega)
      replace bx0 := hB
      replace H0 := below_only H0 hg (by omega) H0.size
      clear hg hB
      obtain ⟨cbx10, ybx10, cbx11, ybx11, cbx12, ybx12, cbx13, ybx13, cbx14, ybx14, cbx15, ybx15⟩ := bx1.cf6
      refine wpAny_one (i := 8) (by kernel_rfl) rfl (fun K hK => ?_)
      go_simp
      refine hK.out _ _ ?_
      clear hK K
      (try simp only [List.setIfInBounds_toArray, List.set_cons_zero, List.set_cons_succ])
      clear cbx10 ybx10 cbx11 ybx11 cbx12 ybx12 cbx13 ybx13 cbx14 ybx14 cbx15 ybx15
      have hg := only_store6 X53 (g1_) (.bool s9) (.slice A9 n9 c9) (.bool s10) (.slice A10 n10 c10) (.bool s11) (.slice A11 n11 c11)
      have hB := bx1.stored6 (.bool s9) (.slice A9 n9 c9) (.bool s10) (.slice A10 n10 c10) (.bool s11) (.slice A11 n11 c11)
      generalize hX : ((((((X53.setCell ⟨g1_, 0, none⟩ (.bool s9)).setCell ⟨g1_, 1, none⟩ (.slice A9 n9 c9)).setCell ⟨g1_, 2, none⟩ (.bool s10)).setCell ⟨g1_, 3, none⟩ (.slice A10 n10 c10)).setCell ⟨g1_, 4, none⟩ (.bool s11)).setCell ⟨g1_, 5, none⟩ (.slice A11 n11 c11)) = X54 at hg hB ⊢
      clear hX
      replace g6 := g6.kept bx1 (by simp [notInt]) hg
      replace g7 := g7.kept bx1 (by simp [notInt]) hg
      replace g8 := g8.kept bx1 (by simp [notInt]) hg
      replace g9 := g9.kept bx1 (by simp [notInt]) hg
      replace g10 := g10.kept bx1 (by simp [notInt]) hg
      replace g11 := g11.kept bx1 (by simp [notInt]) hg
      replace bx0 := bx0.other hg (by omega)
      replace bx1 := hB
      replace H0 := below_only H0 hg (by omega) H0.size
      clear hg hB
      refine wpAny_done (by kernel_rfl) ?_ _
      refine NoPanic.normal ?_
      go_wp2_with fail
      go_meet
      exact ⟨g0_, g1_, ua, ub, ud, s6, A6, n6, c6, s7, A7, n7, c7, s8, A8, n8, c8, s9, A9, n9, c9, s10, A10, n10, c10, s11, A11, n11, c11, rfl, rfl, g6, g7, g8, g9, g10, g11, hm, bx0, bx1, hl0, hl1, H0⟩
  case rest =>
    obtain ⟨g70, g71, ua, ub, ud, s6, A6, n6, c6, s7, A7, n7, c7, s8, A8, n8, c8, s9, A9, n9, c9, s10, A10, n10, c10, s11, A11, n11, c11, rfl, rfl, g6, g7, g8, g9, g10, g11, hm, b5, b6, ml0, ml1, hG⟩ := hcut
    replace h0 := h0.below hG
    replace h1 := h1.below hG
    replace h2 := h2.below hG
    replace h := h.below hG
    replace h' := h'.below hG
    replace b0 := b0.below hG
    replace b1 := b1.below hG
    replace b9 := b9.below hG
    replace H0 := H0.trans (hG.mono H0.size)
    clear hG
    go_wp2_with fail
    have hD := drawn_below wc
    replace h0 := h0.below hD
    replace h1 := h1.below hD
    replace h2 := h2.below hD
    replace h := h.below hD
    replace h' := h'.below hD
    replace g6 := g6.below hD
    replace g7 := g7.below hD
    replace g8 := g8.below hD
    replace g9 := g9.below hD
    replace g10 := g10.below hD
    replace g11 := g11.below hD
    replace b0 := b0.below hD
    replace b1 := b1.below hD
    replace b9 := b9.below hD
    replace b5 := b5.below hD
    replace b6 := b6.below hD
    replace H0 := H0.trans (hD.mono H0.size)
    clear hD
    refine wp_region_noPanic ?_
    refine wp_region_held_drew (S := (fun V => V.cell? ⟨g70, 0, none⟩ = some (.bool s6) ∧ V.cell? ⟨g70, 1, none⟩ = some (.slice A6 n6 c6) ∧ V.cell? ⟨g70, 2, none⟩ = some (.bool s7) ∧ V.cell? ⟨g70, 3, none⟩ = some (.slice A7 n7 c7) ∧ V.cell? ⟨g70, 4, none⟩ = some (.bool s8) ∧ V.cell? ⟨g70, 5, none⟩ = some (.slice A8 n8 c8) ∧ V.cell? ⟨g71, 0, none⟩ = some (.bool s9) ∧ V.cell? ⟨g71, 1, none⟩ = some (.slice A9 n9 c9) ∧ V.cell? ⟨g71, 2, none⟩ = some (.bool s10) ∧ V.cell? ⟨g71, 3, none⟩ = some (.slice A10 n10 c10) ∧ V.cell? ⟨g71, 4, none⟩ = some (.bool s11) ∧ V.cell? ⟨g71, 5, none⟩ = some (.slice A11 n11 c11))) (by kernel_rfl) (b5.and6 (b6.all6)) (fun hHeld => ?_)
    generalize wc.drew = v502 at H0 hHeld h0 h1 h2 h h' g6 g7 g8 g9 g10 g11 b0 b1 b9 b5 b6 ⊢
    refine tk 0 ?_ rfl (by kernel_rfl) (by kernel_rfl) (by kernel_rfl) (fun _ _ _ h => h) (by rfl) ?_ (by assumption) ?_
    rotate_left
    · (intro w hSw; (try dsimp only at hSw); go_simp; (try with_reducible rfl))
    (try simp only [getElem_toArray, getElem_cons_zero, Act.put, setIfInBounds_toArray, set_cons_zero, set_cons_succ])
    refine tk 1 ?_ rfl (by kernel_rfl) (by kernel_rfl) (by kernel_rfl) (fun _ _ _ h => h) (by rfl) ?_ (by assumption) ?_
    rotate_left
    · (intro w hSw; (try dsimp only at hSw); go_simp; (try with_reducible rfl))
    (try simp only [getElem_toArray, getElem_cons_succ, getElem_cons_zero, Act.put, setIfInBounds_toArray, set_cons_zero, set_cons_succ])
    refine tk 3 ?_ rfl (by kernel_rfl) (by kernel_rfl) (by kernel_rfl) (fun _ _ _ h => h) (by rfl) ?_ (by assumption) ?_
    rotate_left
    · (intro w hSw; (try dsimp only at hSw); go_simp; (try with_reducible rfl))
    (try simp only [getElem_toArray, getElem_cons_succ, getElem_cons_zero, Act.put, setIfInBounds_toArray, set_cons_zero, set_cons_succ])
    refine tk 4 ?_ rfl (by kernel_rfl) (by kernel_rfl) (by kernel_rfl) (fun _ _ _ h => h) (by rfl) ?_ (by assumption) ?_
    rotate_left
    · (intro w hSw; (try dsimp only at hSw); go_simp; (try with_reducible rfl))
    (try simp only [getElem_toArray, getElem_cons_succ, getElem_cons_zero, Act.put, setIfInBounds_toArray, set_cons_zero, set_cons_succ])
    refine tk 6 ?_ rfl (by kernel_rfl) (by kernel_rfl) (by kernel_rfl) (fun _ _ _ h => h) (by rfl) ?_ (by assumption) ?_
    rotate_left
    · (intro w hSw; (try dsimp only at hSw); go_simp; (try with_reducible rfl))
    (try simp only [getElem_toArray, getElem_cons_succ, getElem_cons_zero, Act.put, setIfInBounds_toArray, set_cons_zero, set_cons_succ])
    refine tk 7 ?_ rfl (by kernel_rfl) (by kernel_rfl) (by kernel_rfl) (fun _ _ _ h => h) (by rfl) ?_ (by assumption) ?_
    rotate_left
    · (intro w hSw; (try dsimp only at hSw); go_simp; (try with_reducible rfl))
    (try simp only [getElem_toArray, getElem_cons_succ, getElem_cons_zero, Act.put, setIfInBounds_toArray, set_cons_zero, set_cons_succ])
    refine rd1 2 (by kernel_rfl) rfl (fun K hK => ?_)
    go_simp
    go_at_call 81
    refine (ldot_v (g6.ri.more hM) (g7.ri.more hM) (g8.ri.more hM) g9.ri g10.ri g11.ri (by omega)).mono ?_
    rintro e w503 ⟨s12, A12, n12, c12, rfl, g12, hb⟩
    replace h0 := h0.below hb
    replace h1 := h1.below hb
    replace h2 := h2.below hb
    replace h := h.below hb
    replace h' := h'.below hb
    replace g6 := g6.below hb
    replace g7 := g7.below hb
    replace g8 := g8.below hb
    replace g9 := g9.below hb
    replace g10 := g10.below hb
    replace g11 := g11.below hb
    replace b0 := b0.below hb
    replace b1 := b1.below hb
    replace b9 := b9.below hb
    replace b5 := b5.below hb
    replace b6 := b6.below hb
    replace H0 := H0.trans (hb.mono H0.size)
    clear hb
    go_wp2_with fail
    refine hK.out _ _ (b5.and6 (b6.all6)) (fun hHeld => ?_)
    clear hK K
    (try simp only [getElem_toArray, getElem_cons_succ, getElem_cons_zero, Act.put, setIfInBounds_toArray, set_cons_zero, set_cons_succ])
    refine rd1 5 (by kernel_rfl) rfl (fun K hK => ?_)
    go_simp
    go_at_call 96
    refine (cdot_v (g6.ri.more hM) (g7.ri.more hM) (g8.ri.more hM) (g6.ri.more hM) (g7.ri.more hM) (g8.ri.more hM) (by omega)).mono ?_
    rintro e w504 ⟨s13, A13, n13, c13, rfl, g13, hb⟩
    replace h0 := h0.below hb
    replace h1 := h1.below hb
    replace h2 := h2.below hb
    replace h := h.below hb
    replace h' := h'.below hb
    replace g6 := g6.below hb
    replace g7 := g7.below hb
    replace g8 := g8.below hb
    replace g9 := g9.below hb
    replace g10 := g10.below hb
    replace g11 := g11.below hb
    replace g12 := g12.below hb
    replace b0 := b0.below hb
    replace b1 := b1.below hb
    replace b9 := b9.below hb
    replace b5 := b5.below hb
    replace b6 := b6.below hb
    replace H0 := H0.trans (hb.mono H0.size)
    clear hb
    go_wp2_with fail
    refine hK.out _ _ (b5.and6 (b6.all6)) (fun hHeld => ?_)
    clear hK K
    (try simp only [getElem_toArray, getElem_cons_succ, getElem_cons_zero, Act.put, setIfInBounds_toArray, set_cons_zero, set_cons_succ])
    refine rd1 8 (by kernel_rfl) rfl (fun K hK => ?_)
    go_simp
    go_at_call 95
    refine (imul_v g13.ri g11.ri (by omega) (by omega)).mono ?_
    rintro e w505 ⟨s14, A14, n14, c14, rfl, g14, hb⟩
    replace h0 := h0.below hb
    replace h1 := h1.below hb
    replace h2 := h2.below hb
    replace h := h.below hb
    replace h' := h'.below hb
    replace g6 := g6.below hb
    replace g7 := g7.below hb
    replace g8 := g8.below hb
    replace g9 := g9.below hb
    replace g10 := g10.below hb
    replace g11 := g11.below hb
    replace g12 := g12.below hb
    replace g13 := g13.below hb
    replace b0 := b0.below hb
    replace b1 := b1.below hb
    replace b9 := b9.below hb
    replace b5 := b5.below hb
    replace b6 := b6.below hb
    replace H0 := H0.trans (hb.mono H0.size)
    clear hb
    clear g13
    go_wp2_with fail
    refine hK.out _ _ (b5.and6 (b6.all6)) (fun hHeld => ?_)
    clear hK K
    (try simp only [getElem_toArray, getElem_cons_succ, getElem_cons_zero, Act.put, setIfInBounds_toArray, set_cons_zero, set_cons_succ])
    refine rd1 9 (by kernel_rfl) rfl (fun K hK => ?_)
    go_simp
    go_at_call 80
    refine (lquot_v (g12.ri.more hM2) g14.ri (HPD.out _ hm.1) (by omega)).mono ?_
    rintro e w506 ⟨s15, A15, n15, c15, D15, m15, e15, rfl, g15, hb⟩
    replace h0 := h0.below hb
    replace h1 := h1.below hb
    replace h2 := h2.below hb
    replace h := h.below hb
    replace h' := h'.below hb
    replace g6 := g6.below hb
    replace g7 := g7.below hb
    replace g8 := g8.below hb
    replace g9 := g9.below hb
    replace g10 := g10.below hb
    replace g11 := g11.below hb
    replace g12 := g12.below hb
    replace g14 := g14.below hb
    replace b0 := b0.below hb
    replace b1 := b1.below hb
    replace b9 := b9.below hb
    replace b5 := b5.below hb
    replace b6 := b6.below hb
    replace H0 := H0.trans (hb.mono H0.size)
    clear hb
    go_wp2_with fail
    refine hK.out _ _ (b5.and6 (b6.all6)) (fun hHeld => ?_)
    clear hK K
    (try simp only [getElem_toArray, getElem_cons_succ, getElem_cons_zero, Act.put, setIfInBounds_toArray, set_cons_zero, set_cons_succ])
    obtain ⟨cb90, yb90, cb91, yb91, cb92, yb92⟩ := b9.cf3
    refine rd1 10 (by kernel_rfl) rfl (fun K hK => ?_)
    go_simp
    clear cb90 yb90 cb91 yb91 cb92 yb92
    have hg := only_store3 w506 (w.heap.size + 1 + 1) (.bool s15) (.slice A15 n15 c15) (.slice D15 m15 e15)
    have hB := b9.stored3 (.bool s15) (.slice A15 n15 c15) (.slice D15 m15 e15)
    generalize hX : (((w506.setCell ⟨w.heap.size + 1 + 1, 0, none⟩ (.bool s15)).setCell ⟨w.heap.size + 1 + 1, 1, none⟩ (.slice A15 n15 c15)).setCell ⟨w.heap.size + 1 + 1, 2, none⟩ (.slice D15 m15 e15)) = X507 at hg hB ⊢
    clear hX
    replace h0 := h0.kept b9 (by simp [notInt]) hg
    replace h1 := h1.kept b9 (by simp [notInt]) hg
    replace h2 := h2.kept b9 (by simp [notInt]) hg
    replace h := h.kept b9 (by simp [notInt]) hg
    replace h' := h'.kept b9 (by simp [notInt]) hg
    replace g6 := g6.kept b9 (by simp [notInt]) hg
    replace g7 := g7.kept b9 (by simp [notInt]) hg
    replace g8 := g8.kept b9 (by simp [notInt]) hg
    replace g9 := g9.kept b9 (by simp [notInt]) hg
    replace g10 := g10.kept b9 (by simp [notInt]) hg
    replace g11 := g11.kept b9 (by simp [notInt]) hg
    replace g12 := g12.kept b9 (by simp [notInt]) hg
    replace g14 := g14.kept b9 (by simp [notInt]) hg
    replace g15 := g15.kept b9 (by simp [notInt]) hg
    replace b0 := b0.other hg (by omega)
    replace b1 := b1.other hg (by omega)
    replace b5 := b5.other hg (by omega)
    replace b6 := b6.other hg (by omega)
    replace b9 := hB
    replace H0 := below_only H0 hg (by omega) H0.size
    clear hg hB
    refine hK.out _ _ (b5.and6 (b6.all6)) (fun hHeld => ?_)
    clear hK K
    (try simp only [getElem_toArray, getElem_cons_succ, getElem_cons_zero, Act.put, setIfInBounds_toArray, set_cons_zero, set_cons_succ])
    refine wpAnyH_done (by kernel_rfl) ?_ _
    refine NoPanic.normal ?_
    go_wp2_with fail
    refine bodyPost_ret (ret_rat rfl rfl b9) rfl ?_
    exact ⟨_, _, _, _, _, _, _, rfl, by rw [← par_val V0.out.1 hm]; exact g15, H0⟩
end
end Go.Proofs.YtancgkmkbgkncaaGreat
namespace Go.Proofs.YtancgkmkbgkncaaGreat
open List (getElem_toArray getElem_cons_succ getElem_cons_zero setIfInBounds_toArray set_cons_zero set_cons_succ)
open Go.RowKit

section
variable {A0 A1 A2 A3 A4 A5 A6 A7 A8 A9 A10 A11 A12 A13 A14 A15 A16 A17 A20 A21 D0 D1 D2 D3 D4 D5 D6 D7 D13 D15 D16 D17 D20 D21 : Option Addr} {n0 n1 n2 n3 n4 n5 n6 n7 n8 n9 n10 n11 n12 n13 n14 n15 n16 n17 n20 n21 c0 c1 c2 c3 c4 c5 c6 c7 c8 c9 c10 c11 c12 c13 c14 c15 c16 c17 c20 c21 m0 m1 m2 m3 m4 m5 m6 m7 m13 m15 m16 m17 m20 m21 e0 e1 e2 e3 e4 e5 e6 e7 e13 e15 e16 e17 e20 e21 : Nat} {s0 s1 s2 s3 s4 s5 s6 s7 s8 s9 s10 s11 s12 s13 s14 s15 s16 s17 s20 s21 : Bool} {q0 q1 q2 q3 q4 q5 q6 q7 : Rat} {z0 z1 z2 z3 z4 z5 z6 z7 z8 z9 z10 z11 : Int} {L L0 L1 x y : Nat} {k : Int} {b : Bool} {w : World}
theorem at_on {z0 z1 : Int} (z2 : Int) (h : ¬ (z0 = 0 ∧ z1 = 0)) (q : Rat) : (z0 : Rat) * atX z0 z1 z2 q + (z1 : Rat) * atY z0 z1 z2 q + (z2 : Rat) = 0 := by
  have hs := sqd_ne h
  unfold atX atY
  generalize (z0 : Rat) = a at *
  generalize (z1 : Rat) = b at *
  generalize (z2 : Rat) = c at *
  generalize hm : b * b + -a * -a = m at *
  have e : a * (-(c / m) * a + q * b) + b * (-(c / m) * b + q * -a) + c = -(c / m) * (b * b + -a * -a) + c := by grind
  rw [e, hm]
  clear hm e
  grind
theorem par_at {z0 z1 : Int} (z2 : Int) (h : ¬ (z0 = 0 ∧ z1 = 0)) (q : Rat) : parQ z0 z1 (atX z0 z1 z2 q) (atY z0 z1 z2 q) = q := by
  have hs := sqd_ne h
  unfold parQ atX atY
  generalize (z0 : Rat) = a at *
  generalize (z1 : Rat) = b at *
  generalize (z2 : Rat) = c at *
  generalize hm : b * b + -a * -a = m at *
  have e : (-(c / m) * a + q * b) * b + (-(c / m) * b + q * -a) * -a = q * (b * b + -a * -a) := by grind
  rw [e, hm]
  clear hm e
  grind
theorem rsg_int' (z : Int) : rsg (z : Rat) = z.sign := rsg_int z
theorem left_on {z0 z1 : Int} (z2 : Int) (h : ¬ (z0 = 0 ∧ z1 = 0)) (q : Rat) : rsg ((z0 : Rat) * (atX z0 z1 z2 q + - -(z0 : Rat)) + (z1 : Rat) * (atY z0 z1 z2 q + (z1 : Rat)) + (z2 : Rat)) = 1 := by
  have e : (z0 : Rat) * (atX z0 z1 z2 q + - -(z0 : Rat)) + (z1 : Rat) * (atY z0 z1 z2 q + (z1 : Rat)) + (z2 : Rat) = ((z1 * z1 + -z0 * -z0 : Int) : Rat) := by
    have h1 := at_on z2 h q
    rw [Rat.intCast_add, Rat.intCast_mul, Rat.intCast_mul, Rat.intCast_neg]; grind
  rw [e, rsg_int']; exact Int.sign_eq_one_of_pos (sqd_pos h)
theorem left_rev {z0 z1 : Int} (z2 : Int) (h : ¬ (z0 = 0 ∧ z1 = 0)) (q : Rat) : rsg (((-z0 : Int) : Rat) * (atX z0 z1 z2 q + - -(z0 : Rat)) + ((-z1 : Int) : Rat) * (atY z0 z1 z2 q + (z1 : Rat)) + ((-z2 : Int) : Rat)) = -1 := by
  have e : ((-z0 : Int) : Rat) * (atX z0 z1 z2 q + - -(z0 : Rat)) + ((-z1 : Int) : Rat) * (atY z0 z1 z2 q + (z1 : Rat)) + ((-z2 : Int) : Rat) = ((-(z1 * z1 + -z0 * -z0) : Int) : Rat) := by
    have h1 := at_on z2 h q
    rw [Rat.intCast_neg, Rat.intCast_neg, Rat.intCast_neg, Rat.intCast_neg, Rat.intCast_add, Rat.intCast_mul, Rat.intCast_mul, Rat.intCast_neg]; grind
  rw [e, rsg_int']; have := sqd_pos h; exact Int.sign_eq_neg_one_of_neg (by omega)
theorem at_inj {z0 z1 : Int} (z2 : Int) (h : ¬ (z0 = 0 ∧ z1 = 0)) {q q' : Rat} : (atX z0 z1 z2 q = atX z0 z1 z2 q' ∧ atY z0 z1 z2 q = atY z0 z1 z2 q') ↔ q = q' := by
  constructor
  · rintro ⟨h1, h2⟩
    rw [← par_at z2 h q, ← par_at z2 h q', h1, h2]
  · rintro rfl; exact ⟨rfl, rfl⟩
theorem thr_at {z0 z1 z2 : Int} (h : VL z0 z1 z2) {q q' : Rat} {a b c : Int} (ht : Thr (atX z0 z1 z2 q) (atY z0 z1 z2 q) (atX z0 z1 z2 q') (atY z0 z1 z2 q') a b c) :
    (rsg (q - q') = -1 → pr a a b c = z0 ∧ pr b a b c = z1 ∧ pr c a b c = z2) ∧ (rsg (q - q') = 1 → pr a a b c = -z0 ∧ pr b a b c = -z1 ∧ pr c a b c = -z2) := by
  obtain ⟨K, hK, ea, eb, ec⟩ := ht
  have hs := sqd_ne h.1
  have e1 : atY z0 z1 z2 q - atY z0 z1 z2 q' = (q' - q) * (z0 : Rat) := by unfold atY; grind
  have e2 : atX z0 z1 z2 q' - atX z0 z1 z2 q = (q' - q) * (z1 : Rat) := by unfold atX; grind
  have e3 : atX z0 z1 z2 q * atY z0 z1 z2 q' - atY z0 z1 z2 q * atX z0 z1 z2 q' = (q' - q) * (z2 : Rat) := by
    unfold atX atY
    clear ea eb ec e1 e2
    generalize (z0 : Rat) = a at *
    generalize (z1 : Rat) = b at *
    generalize (z2 : Rat) = c at *
    generalize hm : b * b + -a * -a = m at *
    have e : (-(c / m) * a + q * b) * (-(c / m) * b + q' * -a) - (-(c / m) * b + q * -a) * (-(c / m) * a + q' * b) = (q' - q) * ((c / m) * (b * b + -a * -a)) := by grind
    rw [e, hm]
    clear hm e
    grind
  rw [e1] at ea
  rw [e2] at eb
  rw [e3] at ec
  obtain ⟨r, hr⟩ : ∃ r, q' - q = r := ⟨_, rfl⟩
  have hn := num_cast r
  have hd := den_cast_ne r
  have key : ∀ {x z : Int}, (x : Rat) = (q' - q) * (z : Rat) * (K : Rat) → x * (r.den : Int) = z * (r.num * K) := fun {x z} e => by
    apply Rat.intCast_inj.1
    rw [Rat.intCast_mul, Rat.intCast_mul, Rat.intCast_mul, e, hr, hn, Rat.intCast_natCast]; grind
  have ka := key ea
  have kb := key eb
  have kc := key ec
  have hdp := r.den_pos
  have hsr : rsg (q - q') = -(r.num.sign) := by
    have : q - q' = -r := by rw [← hr]; grind
    rw [this]
    show (-r).num.sign = _
    rw [Rat.neg_num, Int.sign_neg]
  constructor
  · intro h1
    have hp : 0 < r.num := by
      rcases Int.lt_trichotomy r.num 0 with h2 | h2 | h2
      · rw [hsr, Int.sign_eq_neg_one_of_neg h2] at h1; omega
      · rw [hsr, h2] at h1; cases h1
      · exact h2
    obtain ⟨k1, k2, k3⟩ := pr_same (by omega) (Int.mul_pos hp hK) ka kb kc
    rw [k1, k2, k3, pr_one h.2, pr_one h.2, pr_one h.2]; exact ⟨rfl, rfl, rfl⟩
  · intro h1
    have hp : r.num < 0 := by
      rcases Int.lt_trichotomy r.num 0 with h2 | h2 | h2
      · exact h2
      · rw [hsr, h2] at h1; cases h1
      · rw [hsr, Int.sign_eq_one_of_pos h2] at h1; omega
    have hv := vl_neg h
    have neg : ∀ {x z : Int}, x * (r.den : Int) = z * (r.num * K) → x * (r.den : Int) = -z * (-r.num * K) := fun {x z} e => by rw [e]; grind
    obtain ⟨k1, k2, k3⟩ := pr_same (by omega) (Int.mul_pos (show 0 < -r.num by omega) hK) (neg ka) (neg kb) (neg kc)
    rw [k1, k2, k3, pr_one hv.2, pr_one hv.2, pr_one hv.2]; exact ⟨rfl, rfl, rfl⟩
end
end Go.Proofs.YtancgkmkbgkncaaGreat
