/-
  What one statement needs beside.
-/
import Derived.Test.YtancgkmkbgkncaaGreatUSq
import Derived.Test.YtancgkmkbgkncaaGreatUBox
import Derived.Test.YtancgkmkbgkncaaGreatUDivLong
import Derived.Test.YtancgkmkbgkncaaGreatUFormI
import Derived.Test.YtancgkmkbgkncaaGreatUIGcd
import Derived.Test.YtancgkmkbgkncaaGreatUK1
import Derived.Test.YtancgkmkbgkncaaGreatUK2
import Derived.Test.YtancgkmkbgkncaaGreatUK3
import Derived.Test.YtancgkmkbgkncaaGreatUK4
import Derived.Test.YtancgkmkbgkncaaGreatUK5
import Derived.Test.YtancgkmkbgkncaaGreatUK6
import Derived.Test.YtancgkmkbgkncaaGreatUK7
import Derived.Test.YtancgkmkbgkncaaGreatUK8
import Derived.Test.YtancgkmkbgkncaaGreatUK9
import Derived.Test.YtancgkmkbgkncaaGreatULnA
import Derived.Test.YtancgkmkbgkncaaGreatULnB
import Derived.Test.YtancgkmkbgkncaaGreatULnC
import Derived.Test.YtancgkmkbgkncaaGreatULnD
import Derived.Test.YtancgkmkbgkncaaGreatULnG
import Derived.Test.YtancgkmkbgkncaaGreatULnH
import Derived.Test.YtancgkmkbgkncaaGreatULnK
import Derived.Test.YtancgkmkbgkncaaGreatULnM
import Derived.Test.YtancgkmkbgkncaaGreatULnP
import Derived.Test.YtancgkmkbgkncaaGreatULnQ
import Derived.Test.YtancgkmkbgkncaaGreatULnT
import Derived.Test.YtancgkmkbgkncaaGreatULnV
import Derived.Test.YtancgkmkbgkncaaGreatULnX
import Derived.Test.YtancgkmkbgkncaaGreatUN1
import Derived.Test.YtancgkmkbgkncaaGreatUOrd
import Derived.Test.YtancgkmkbgkncaaGreatUPhase
import Derived.Test.YtancgkmkbgkncaaGreatUPtA
import Derived.Test.YtancgkmkbgkncaaGreatUPtG
import Derived.Test.YtancgkmkbgkncaaGreatUPtT
import Derived.Test.YtancgkmkbgkncaaGreatUR1
import Derived.Test.YtancgkmkbgkncaaGreatURatA
import Derived.Test.YtancgkmkbgkncaaGreatURatC
import Derived.Test.YtancgkmkbgkncaaGreatURatD
import Derived.Test.YtancgkmkbgkncaaGreatURatR
import Derived.Test.YtancgkmkbgkncaaGreatURatS
import Derived.Test.YtancgkmkbgkncaaGreatURatT
import Derived.Test.YtancgkmkbgkncaaGreatUS1
import Derived.Test.YtancgkmkbgkncaaGreatUShelf
import Derived.Test.YtancgkmkbgkncaaGreatUShutN
import Derived.Test.YtancgkmkbgkncaaGreatProg
import Derived.Tactics
import Derived.Tactics2
import Derived.WalkKit
import Derived.IntWalk
import Derived.Deep.Draws
import Derived.Deep.QuietTactic
import Derived.BigQuiet
import Derived.Lib.Hide
import Derived.KernelRfl
import Derived.Maps.AppendAt
import Derived.OwnWalk
import Derived.Deep.RegionHeld3
import Derived.Deep.DrawnRows
import Derived.Test.YtancgkmkbgkncaaGreatRows
import Derived.ProofKit
import Derived.OpenShut
import Derived.Stop.Joined
import Derived.ChangeSlices
import Derived.ChangeSame
import Derived.LoopN
import Derived.Deep.Cut
namespace Go.Proofs.YtancgkmkbgkncaaGreat
open List (getElem_toArray getElem_cons_succ getElem_cons_zero setIfInBounds_toArray set_cons_zero set_cons_succ)

end Go.Proofs.YtancgkmkbgkncaaGreat
namespace Go.Proofs.YtancgkmkbgkncaaGreat
open List (getElem_toArray getElem_cons_succ getElem_cons_zero setIfInBounds_toArray set_cons_zero set_cons_succ)
open Go.RowKit

section
variable {w w' : World} {v : Value} {ds : List Nat}
end

section
variable {w w' : World} {g : Nat} {ds : List Nat}
end

end Go.Proofs.YtancgkmkbgkncaaGreat
namespace Go.Proofs.YtancgkmkbgkncaaGreat
open List (getElem_toArray getElem_cons_succ getElem_cons_zero setIfInBounds_toArray set_cons_zero set_cons_succ)
open Go.RowKit

section
variable {w w' : World} {B : Nat} {v : Value} {ds : List Nat}
end

end Go.Proofs.YtancgkmkbgkncaaGreat
namespace Go.Proofs.YtancgkmkbgkncaaGreat
open List (getElem_toArray getElem_cons_succ getElem_cons_zero setIfInBounds_toArray set_cons_zero set_cons_succ)
open Go.RowKit

end Go.Proofs.YtancgkmkbgkncaaGreat
namespace Go.Proofs.YtancgkmkbgkncaaGreat
open List (getElem_toArray getElem_cons_succ getElem_cons_zero setIfInBounds_toArray set_cons_zero set_cons_succ)
open Go.RowKit

set_option maxRecDepth 100000 in
/-- N: the canonical digits, in memory of their own. -/
theorem n_is {A : Option Addr} {n c x : Nat} {ds : List Nat} {w : World} (hx : Raw w (.slice A n c) ds) (hvx : Hid (val ds = x)) :
    Calls Tryz.prog 64 #[.slice A n c] w fun e w' => ∃ B k d, e = .returned (.slice B k d) ∧ Num w' (.slice B k d) x ∧ Below w.heap.size w w' := by
  have hl := Raw.len hx
  go_enter Tryz.func64, Tryz.ntmps64
  go_wp2_with (at_builtin; refine wpList_append_digs rfl _ _ _ _ rfl Tryz.underlying22 Tryz.underlying23 w.heap.size rfl (grow_empty w) rfl (raw_alloc hx _) (by simp) (by simpa using hl) ?_; intro v' w1 hg hgr hb)
  rw [List.nil_append] at hg
  have hb2 := (below_alloc w (.cells #[] 153)).trans hb
  obtain ⟨A1, c1, rfl⟩ := hg.form
  have hr := hg.raw hl
  go_wp2_with fail
  refine (ntrim_is hr hvx).mono ?_
  rintro e w' ⟨rfl, hN, rfl⟩
  go_wp2_with fail
  go_ret
  exact ⟨_, _, _, rfl, hN, hb2⟩

end Go.Proofs.YtancgkmkbgkncaaGreat
namespace Go.Proofs.YtancgkmkbgkncaaGreat
open List (getElem_toArray getElem_cons_succ getElem_cons_zero setIfInBounds_toArray set_cons_zero set_cons_succ)
open Go.RowKit

end Go.Proofs.YtancgkmkbgkncaaGreat
namespace Go.Proofs.YtancgkmkbgkncaaGreat
open List (getElem_toArray getElem_cons_succ getElem_cons_zero setIfInBounds_toArray set_cons_zero set_cons_succ)
open Go.RowKit

end Go.Proofs.YtancgkmkbgkncaaGreat
namespace Go.Proofs.YtancgkmkbgkncaaGreat
open List (getElem_toArray getElem_cons_succ getElem_cons_zero setIfInBounds_toArray set_cons_zero set_cons_succ)
open Go.RowKit

end Go.Proofs.YtancgkmkbgkncaaGreat
namespace Go.Proofs.YtancgkmkbgkncaaGreat
open List (getElem_toArray getElem_cons_succ getElem_cons_zero setIfInBounds_toArray set_cons_zero set_cons_succ)
open Go.RowKit



end Go.Proofs.YtancgkmkbgkncaaGreat
namespace Go.Proofs.YtancgkmkbgkncaaGreat
open List (getElem_toArray getElem_cons_succ getElem_cons_zero setIfInBounds_toArray set_cons_zero set_cons_succ)
open Go.RowKit

end Go.Proofs.YtancgkmkbgkncaaGreat
namespace Go.Proofs.YtancgkmkbgkncaaGreat
open List (getElem_toArray getElem_cons_succ getElem_cons_zero setIfInBounds_toArray set_cons_zero set_cons_succ)
open Go.RowKit

theorem same_true {A A' : Option Addr} {n n' c c' : Nat} {ds : List Nat} {w : World} (hx : Raw w (.slice A n c) ds) (hy : Raw w (.slice A' n' c') ds) :
    Calls Tryz.prog 79 #[.slice A n c, .slice A' n' c'] w fun e w' => e = .returned (.bool true) ∧ ∃ j, w' = w.drewN j := by
  have := same_any hx hy
  simpa using this

end Go.Proofs.YtancgkmkbgkncaaGreat
namespace Go.Proofs.YtancgkmkbgkncaaGreat
open List (getElem_toArray getElem_cons_succ getElem_cons_zero setIfInBounds_toArray set_cons_zero set_cons_succ)
open Go.RowKit

end Go.Proofs.YtancgkmkbgkncaaGreat
namespace Go.Proofs.YtancgkmkbgkncaaGreat
open List (getElem_toArray getElem_cons_succ getElem_cons_zero setIfInBounds_toArray set_cons_zero set_cons_succ)
open Go.RowKit

end Go.Proofs.YtancgkmkbgkncaaGreat
namespace Go.Proofs.YtancgkmkbgkncaaGreat
open List (getElem_toArray getElem_cons_succ getElem_cons_zero setIfInBounds_toArray set_cons_zero set_cons_succ)
open Go.RowKit
attribute [local go_sem ↓] Go.wp_at_zero Go.wp_at_succ

end Go.Proofs.YtancgkmkbgkncaaGreat
namespace Go.Proofs.YtancgkmkbgkncaaGreat
open List (getElem_toArray getElem_cons_succ getElem_cons_zero setIfInBounds_toArray set_cons_zero set_cons_succ)
open Go.RowKit

section
variable {w w' : World} {v : Value} {x L b : Nat}
end
section
variable {A A' : Option Addr} {n n' c c' x y L L' : Nat} {w : World}
end
end Go.Proofs.YtancgkmkbgkncaaGreat
namespace Go.Proofs.YtancgkmkbgkncaaGreat
open List (getElem_toArray getElem_cons_succ getElem_cons_zero setIfInBounds_toArray set_cons_zero set_cons_succ)
open Go.ChangeShapes Go.WideShapes Go.ChangeAt Go.WideMaps Go.WideElems Go.RowKit

section
variable {H : Type} {enc : TypeId × Value → H} {P : Program}
end

theorem Tryz.cells_u32 : Tryz.prog.cellsOf 153 = 1 := by kernel_rfl
end Go.Proofs.YtancgkmkbgkncaaGreat
namespace Go.Proofs.YtancgkmkbgkncaaGreat
open List (getElem_toArray getElem_cons_succ getElem_cons_zero setIfInBounds_toArray set_cons_zero set_cons_succ)
open Go.RowKit

section
variable {A A' : Option Addr} {n n' c c' x y L L' : Nat} {ds : List Nat} {w : World}
theorem n_v (hx : RV w (.slice A n c) x L) :
    Calls Tryz.prog 64 #[.slice A n c] w fun e w' => ∃ B k d, e = .returned (.slice B k d) ∧ NV w' (.slice B k d) x L ∧ Below w.heap.size w w' := by
  have hb := hx.lt
  obtain ⟨ds, h1, h2, h3⟩ := hx
  refine (n_is h1 (Lib.hid h2)).mono ?_
  rintro e w' ⟨B, k, d, rfl, hN, hbl⟩
  exact ⟨B, k, d, rfl, ⟨hN, hb⟩, hbl⟩
end
end Go.Proofs.YtancgkmkbgkncaaGreat
namespace Go.Proofs.YtancgkmkbgkncaaGreat
open List (getElem_toArray getElem_cons_succ getElem_cons_zero setIfInBounds_toArray set_cons_zero set_cons_succ)
open Go.RowKit

section
variable {A A' : Option Addr} {n n' c c' x y L L' : Nat} {s s' : Bool} {z z' : Int} {w : World}
end
end Go.Proofs.YtancgkmkbgkncaaGreat
namespace Go.Proofs.YtancgkmkbgkncaaGreat
open List (getElem_toArray getElem_cons_succ getElem_cons_zero setIfInBounds_toArray set_cons_zero set_cons_succ)
open Go.RowKit

set_option maxRecDepth 100000 in
theorem sameI_v {A A' : Option Addr} {n n' c c' L L' : Nat} {s s' : Bool} {z z' : Int} {w : World} (h : NI w s (.slice A n c) z L) (h' : NI w s' (.slice A' n' c') z' L') (he : z = z') :
    Calls Tryz.prog 65 #[.agg #[.bool s, .slice A n c], .agg #[.bool s', .slice A' n' c']] w fun e w' => e = .returned (.bool true) ∧ Below w.heap.size w w' := by
  subst he
  have hs : s = s' := by rw [h.2, h'.2]
  subst hs
  go_enter Tryz.func65, Tryz.ntmps65
  go_wp2_with fail
  obtain ⟨W, hW, b0, b1, hbW, hsz⟩ := boxes2 w #[.bool s, .slice A n c] #[.bool s, .slice A' n' c'] 25 25
  rw [hW]
  refine (same_true (Raw.below h.1.1 hbW) (Raw.below h'.1.1 hbW)).mono ?_
  rintro e w1 ⟨rfl, j, rfl⟩
  have hbf := below_drewN hbW j
  go_wp2_with fail
  go_returns
  exact ⟨rfl, hbf⟩
end Go.Proofs.YtancgkmkbgkncaaGreat
namespace Go.Proofs.YtancgkmkbgkncaaGreat
open List (getElem_toArray getElem_cons_succ getElem_cons_zero setIfInBounds_toArray set_cons_zero set_cons_succ)
open Go.RowKit

section
variable {A A' : Option Addr} {n n' c c' L L' : Nat} {s s' : Bool} {z z' k : Int} {w : World}
end
end Go.Proofs.YtancgkmkbgkncaaGreat
namespace Go.Proofs.YtancgkmkbgkncaaGreat
open List (getElem_toArray getElem_cons_succ getElem_cons_zero setIfInBounds_toArray set_cons_zero set_cons_succ)
open Go.RowKit

section
variable {A A' : Option Addr} {n n' c c' x y L L' : Nat} {s s' : Bool} {z z' k : Int} {w : World} {ds : List Nat}
set_option maxRecDepth 100000 in
theorem refI_v (h : RI w s (.slice A n c) z L) :
    Calls Tryz.prog 13 #[.agg #[.bool s, .slice A n c]] w fun e w' => ∃ t B k d, e = .returned (.agg #[.bool t, .slice B k d]) ∧ NI w' t (.slice B k d) z L ∧ Below w.heap.size w w' := by
  have hz := h.sg.symm
  have hr := h.rv
  have HZ := Lib.hid hz
  clear h hz
  go_enter Tryz.func13, Tryz.ntmps13
  go_wp2_with fail
  obtain ⟨W, hW, b0, b1, hbW, hsz⟩ := boxes2 w #[.bool s, .slice A n c] #[.bool false, .slice none 0 0] 25 35
  rw [hW]
  clear hW
  have hr1 := hr.below (hbW.trans ((drawn_below W).mono hbW.size))
  go_region_held3 (fun V => V.cell? ⟨w.heap.size, 0, none⟩ = some (.bool s) ∧ V.cell? ⟨w.heap.size, 1, none⟩ = some (.slice A n c)) (first | exact KC | exact HC | exact (And.intro (b0.cell 0 _ rfl) (b0.cell 1 _ rfl)) | exact ((p0.far (by omega) _ _).all2) | go_keep)
    (first
      | (go_at_call 64; refine (n_v hr1).mono ?_; rintro e w1 ⟨B, k, d, rfl, hN, hb1⟩; have hb1' := below_drawn hb1; have q0 := b0.below hb1'; have q1 := b1.below hb1'; have HC := (And.intro (q0.cell 0 _ rfl) (q0.cell 1 _ rfl)))
      | (go_at_call 63; refine (nmake_v _ hN HZ.out).mono ?_; rintro e w2 ⟨t, rfl, hI, hb2⟩; have p0 := q0.below hb2; have p1 := q1.below hb2; have KC := (And.intro (p0.cell 0 _ rfl) (p0.cell 1 _ rfl)); have r0 := p1.cell 0 _ rfl; have r1 := p1.cell 1 _ rfl; have f0 := p1.frozen 0; have f1 := p1.frozen 1; have hbT := hbW.trans ((hb1'.trans (hb2.mono hb1'.size)).mono hbW.size))
    )
  have hF := hI.stored p1 (notInt_box _ _ _ _) (.bool t) (.slice B k d)
  have hbf := below_stored (g := w.heap.size + 1) hbT (by omega) (.bool t) (.slice B k d)
  have hbx := p1.stored (.bool t) (.slice B k d)
  go_wp2_with fail
  refine bodyPost_ret (ret_intN rfl rfl hbx) rfl ?_
  exact ⟨t, B, k, d, rfl, hF, hbf⟩
end
end Go.Proofs.YtancgkmkbgkncaaGreat
namespace Go.Proofs.YtancgkmkbgkncaaGreat
open List (getElem_toArray getElem_cons_succ getElem_cons_zero setIfInBounds_toArray set_cons_zero set_cons_succ)
open Go.RowKit

section
variable {A0 A1 A2 A3 A4 A5 A6 A7 A8 A9 A10 A11 A12 A13 A14 A15 A16 A17 D0 D1 D2 D3 D4 D5 D6 D7 : Option Addr} {n0 n1 n2 n3 n4 n5 n6 n7 n8 n9 n10 n11 n12 n13 n14 n15 n16 n17 c0 c1 c2 c3 c4 c5 c6 c7 c8 c9 c10 c11 c12 c13 c14 c15 c16 c17 m0 m1 m2 m3 m4 m5 m6 m7 e0 e1 e2 e3 e4 e5 e6 e7 : Nat} {s0 s1 s2 s3 s4 s5 s6 s7 s8 s9 s10 s11 s12 s13 s14 s15 s16 s17 : Bool} {q0 q1 q2 q3 q4 q5 q6 q7 : Rat} {z0 z1 z2 z3 z4 z5 z6 z7 z8 z9 z10 z11 : Int} {L L0 L1 x y : Nat} {k : Int} {b : Bool} {w : World}
theorem nv_len0 {A : Option Addr} {n c : Nat} (h : NV w (.slice A n c) 0 L) : (n : Int) = 0 := by
  obtain ⟨A', c', e, _⟩ := Num.form h.1
  injection e with e1 e2 e3
  rw [e2, digs_zero]; rfl
set_option maxRecDepth 100000 in
set_option maxHeartbeats 4000000 in
theorem gmakel_z (h0 : NI w s0 (.slice A0 n0 c0) z0 L) (h1 : NI w s1 (.slice A1 n1 c1) z1 L) (h2 : NI w s2 (.slice A2 n2 c2) z2 L) (hz : z0 = 0 ∧ z1 = 0) (hL : L ≤ 1000) :
    Calls Tryz.prog 12 #[.agg #[.bool s0, .slice A0 n0 c0], .agg #[.bool s1, .slice A1 n1 c1], .agg #[.bool s2, .slice A2 n2 c2]] w fun e w' => e = .returned (.tuple #[.agg #[.bool false, .slice none 0 0, .bool false, .slice none 0 0, .bool false, .slice none 0 0], .bool false]) ∧ Below w.heap.size w w' := by
  have HZ : Hid (Nat.gcd z0.natAbs z1.natAbs = 0) := Lib.hid (by rw [hz.1, hz.2]; rfl)
  clear hz
  go_enter Tryz.func12, Tryz.ntmps12
  go_wp2_with fail
  obtain ⟨W0, hW, b0, b1, b2, b9, hbW, hszW0⟩ := boxes4 w #[.bool s0, .slice A0 n0 c0] #[.bool s1, .slice A1 n1 c1] #[.bool s2, .slice A2 n2 c2] #[.bool false, .slice none 0 0, .bool false, .slice none 0 0, .bool false, .slice none 0 0] 35 35 35 37
  rw [hW]
  clear hW
  replace h0 := h0.below hbW
  replace h1 := h1.below hbW
  replace h2 := h2.below hbW
  have H0 := hbW
  clear hbW
  obtain ⟨cb00, cb01⟩ := b0.cells2
  obtain ⟨cb10, cb11⟩ := b1.cells2
  go_wp2_with fail
  clear cb00 cb01 cb10 cb11
  refine (ncommon_v h0.1 h1.1 hL hL).mono ?_
  rintro e w1 ⟨A3, n3, c3, rfl, g3, hb⟩
  replace h0 := h0.below hb
  replace h1 := h1.below hb
  replace h2 := h2.below hb
  replace b0 := b0.below hb
  replace b1 := b1.below hb
  replace b2 := b2.below hb
  replace b9 := b9.below hb
  replace H0 := H0.trans (hb.mono H0.size)
  clear hb
  have hn3 : ((n3 : Int) == 0) = true := by rw [beq_iff_eq]; exact nv_len0 (by rw [← HZ.out]; exact g3)
  obtain ⟨cb90, yb90, cb91, yb91, cb92, yb92, cb93, yb93, cb94, yb94, cb95, yb95⟩ := b9.cf6
  go_wp2_with fail
  clear cb90 yb90 cb91 yb91 cb92 yb92 cb93 yb93 cb94 yb94 cb95 yb95
  have hg := only_store6 w1 (w.heap.size + 1 + 1 + 1) (.bool false) (.slice none 0 0) (.bool false) (.slice none 0 0) (.bool false) (.slice none 0 0)
  have hB := b9.stored6 (.bool false) (.slice none 0 0) (.bool false) (.slice none 0 0) (.bool false) (.slice none 0 0)
  generalize hX : ((((((w1.setCell ⟨w.heap.size + 1 + 1 + 1, 0, none⟩ (.bool false)).setCell ⟨w.heap.size + 1 + 1 + 1, 1, none⟩ (.slice none 0 0)).setCell ⟨w.heap.size + 1 + 1 + 1, 2, none⟩ (.bool false)).setCell ⟨w.heap.size + 1 + 1 + 1, 3, none⟩ (.slice none 0 0)).setCell ⟨w.heap.size + 1 + 1 + 1, 4, none⟩ (.bool false)).setCell ⟨w.heap.size + 1 + 1 + 1, 5, none⟩ (.slice none 0 0)) = X2 at hg hB ⊢
  clear hX
  replace h0 := h0.kept b9 (by simp [notInt]) hg
  replace h1 := h1.kept b9 (by simp [notInt]) hg
  replace h2 := h2.kept b9 (by simp [notInt]) hg
  replace g3 := g3.kept b9 (by simp [notInt]) hg
  replace b0 := b0.other hg (by omega)
  replace b1 := b1.other hg (by omega)
  replace b2 := b2.other hg (by omega)
  replace b9 := hB
  replace H0 := below_only H0 hg (by omega) H0.size
  clear hg hB
  refine bodyPost_ret (ret_geol_b rfl rfl b9) rfl ?_
  exact ⟨rfl, H0⟩
set_option maxRecDepth 100000 in
set_option maxHeartbeats 4000000 in
theorem gsamel_t (h0 : NI w s0 (.slice A0 n0 c0) z0 L) (h1 : NI w s1 (.slice A1 n1 c1) z1 L) (h2 : NI w s2 (.slice A2 n2 c2) z2 L) (h3 : NI w s3 (.slice A3 n3 c3) z3 L0) (h4 : NI w s4 (.slice A4 n4 c4) z4 L0) (h5 : NI w s5 (.slice A5 n5 c5) z5 L0) (he0 : z0 = z3) (he1 : z1 = z4) (he2 : z2 = z5) :
    Calls Tryz.prog 15 #[.agg #[.bool s0, .slice A0 n0 c0, .bool s1, .slice A1 n1 c1, .bool s2, .slice A2 n2 c2], .agg #[.bool s3, .slice A3 n3 c3, .bool s4, .slice A4 n4 c4, .bool s5, .slice A5 n5 c5]] w fun e w' => e = .returned (.bool true) ∧ Below w.heap.size w w' := by
  have HE0 := Lib.hid he0
  clear he0
  have HE1 := Lib.hid he1
  clear he1
  have HE2 := Lib.hid he2
  clear he2
  go_enter Tryz.func15, Tryz.ntmps15
  go_wp2_with fail
  obtain ⟨W0, hW, b0, b1, hbW, hszW0⟩ := boxes2 w #[.bool s0, .slice A0 n0 c0, .bool s1, .slice A1 n1 c1, .bool s2, .slice A2 n2 c2] #[.bool s3, .slice A3 n3 c3, .bool s4, .slice A4 n4 c4, .bool s5, .slice A5 n5 c5] 30 30
  rw [hW]
  clear hW
  replace h0 := h0.below hbW
  replace h1 := h1.below hbW
  replace h2 := h2.below hbW
  replace h3 := h3.below hbW
  replace h4 := h4.below hbW
  replace h5 := h5.below hbW
  have H0 := hbW
  clear hbW
  obtain ⟨cb00, cb01, cb02, cb03, cb04, cb05⟩ := b0.cells6
  obtain ⟨cb10, cb11, cb12, cb13, cb14, cb15⟩ := b1.cells6
  go_wp2_with fail
  clear cb00 cb01 cb02 cb03 cb04 cb05 cb10 cb11 cb12 cb13 cb14 cb15
  refine (sameI_v h0 h3 HE0.out).mono ?_
  rintro e w1 ⟨rfl, hb⟩
  replace h0 := h0.below hb
  replace h1 := h1.below hb
  replace h2 := h2.below hb
  replace h3 := h3.below hb
  replace h4 := h4.below hb
  replace h5 := h5.below hb
  replace b0 := b0.below hb
  replace b1 := b1.below hb
  replace H0 := H0.trans (hb.mono H0.size)
  clear hb
  obtain ⟨cb00, cb01, cb02, cb03, cb04, cb05⟩ := b0.cells6
  obtain ⟨cb10, cb11, cb12, cb13, cb14, cb15⟩ := b1.cells6
  go_wp2_with fail
  clear cb00 cb01 cb02 cb03 cb04 cb05 cb10 cb11 cb12 cb13 cb14 cb15
  refine (sameI_v h1 h4 HE1.out).mono ?_
  rintro e w2 ⟨rfl, hb⟩
  replace h0 := h0.below hb
  replace h1 := h1.below hb
  replace h2 := h2.below hb
  replace h3 := h3.below hb
  replace h4 := h4.below hb
  replace h5 := h5.below hb
  replace b0 := b0.below hb
  replace b1 := b1.below hb
  replace H0 := H0.trans (hb.mono H0.size)
  clear hb
  obtain ⟨cb00, cb01, cb02, cb03, cb04, cb05⟩ := b0.cells6
  obtain ⟨cb10, cb11, cb12, cb13, cb14, cb15⟩ := b1.cells6
  go_wp2_with fail
  clear cb00 cb01 cb02 cb03 cb04 cb05 cb10 cb11 cb12 cb13 cb14 cb15
  refine (sameI_v h2 h5 HE2.out).mono ?_
  rintro e w3 ⟨rfl, hb⟩
  replace h0 := h0.below hb
  replace h1 := h1.below hb
  replace h2 := h2.below hb
  replace h3 := h3.below hb
  replace h4 := h4.below hb
  replace h5 := h5.below hb
  replace b0 := b0.below hb
  replace b1 := b1.below hb
  replace H0 := H0.trans (hb.mono H0.size)
  clear hb
  go_wp2_with fail
  go_returns
  exact ⟨rfl, H0⟩
set_option maxRecDepth 100000 in
set_option maxHeartbeats 4000000 in
theorem lsame_t (h0 : NI w s0 (.slice A0 n0 c0) z0 L) (h1 : NI w s1 (.slice A1 n1 c1) z1 L) (h2 : NI w s2 (.slice A2 n2 c2) z2 L) (h3 : NI w s3 (.slice A3 n3 c3) z3 L0) (h4 : NI w s4 (.slice A4 n4 c4) z4 L0) (h5 : NI w s5 (.slice A5 n5 c5) z5 L0) (he0 : z0 = z3) (he1 : z1 = z4) (he2 : z2 = z5) (hL0 : L0 ≤ 1000000) :
    Calls Tryz.prog 14 #[.agg #[.bool s0, .slice A0 n0 c0, .bool s1, .slice A1 n1 c1, .bool s2, .slice A2 n2 c2], .agg #[.bool s3, .slice A3 n3 c3, .bool s4, .slice A4 n4 c4, .bool s5, .slice A5 n5 c5]] w fun e w' => e = .returned (.bool true) ∧ Below w.heap.size w w' := by
  have HE0 := Lib.hid he0
  clear he0
  have HE1 := Lib.hid he1
  clear he1
  have HE2 := Lib.hid he2
  clear he2
  go_enter Tryz.func14, Tryz.ntmps14
  go_wp2_with fail
  obtain ⟨W0, hW, b0, b1, hbW, hszW0⟩ := boxes2 w #[.bool s0, .slice A0 n0 c0, .bool s1, .slice A1 n1 c1, .bool s2, .slice A2 n2 c2] #[.bool s3, .slice A3 n3 c3, .bool s4, .slice A4 n4 c4, .bool s5, .slice A5 n5 c5] 30 37
  rw [hW]
  clear hW
  replace h0 := h0.below hbW
  replace h1 := h1.below hbW
  replace h2 := h2.below hbW
  replace h3 := h3.below hbW
  replace h4 := h4.below hbW
  replace h5 := h5.below hbW
  have H0 := hbW
  clear hbW
  have hD := drawn_below W0
  replace h0 := h0.below hD
  replace h1 := h1.below hD
  replace h2 := h2.below hD
  replace h3 := h3.below hD
  replace h4 := h4.below hD
  replace h5 := h5.below hD
  replace b0 := b0.below hD
  replace b1 := b1.below hD
  replace H0 := H0.trans (hD.mono H0.size)
  clear hD
  refine wp_region_noPanic ?_
  refine wp_region_held_drew (S := (fun V => V.cell? ⟨w.heap.size, 0, none⟩ = some (.bool s0) ∧ V.cell? ⟨w.heap.size, 1, none⟩ = some (.slice A0 n0 c0) ∧ V.cell? ⟨w.heap.size, 2, none⟩ = some (.bool s1) ∧ V.cell? ⟨w.heap.size, 3, none⟩ = some (.slice A1 n1 c1) ∧ V.cell? ⟨w.heap.size, 4, none⟩ = some (.bool s2) ∧ V.cell? ⟨w.heap.size, 5, none⟩ = some (.slice A2 n2 c2) ∧ V.cell? ⟨w.heap.size + 1, 0, none⟩ = some (.bool s3) ∧ V.cell? ⟨w.heap.size + 1, 1, none⟩ = some (.slice A3 n3 c3) ∧ V.cell? ⟨w.heap.size + 1, 2, none⟩ = some (.bool s4) ∧ V.cell? ⟨w.heap.size + 1, 3, none⟩ = some (.slice A4 n4 c4) ∧ V.cell? ⟨w.heap.size + 1, 4, none⟩ = some (.bool s5) ∧ V.cell? ⟨w.heap.size + 1, 5, none⟩ = some (.slice A5 n5 c5))) (by kernel_rfl) (b0.and6 (b1.all6)) (fun hHeld => ?_)
  generalize W0.drew = v1 at H0 hHeld h0 h1 h2 h3 h4 h5 b0 b1 ⊢
  refine tk 0 ?_ rfl (by kernel_rfl) (by kernel_rfl) (by kernel_rfl) (fun _ _ _ h => h) (by rfl) ?_ (by assumption) ?_
  rotate_left
  · (intro w hSw; (try dsimp only at hSw); go_simp; (try with_reducible rfl))
  (try simp only [getElem_toArray, getElem_cons_zero, Act.put, setIfInBounds_toArray, set_cons_zero, set_cons_succ])
  refine tk 1 ?_ rfl (by kernel_rfl) (by kernel_rfl) (by kernel_rfl) (fun _ _ _ h => h) (by rfl) ?_ (by assumption) ?_
  rotate_left
  · (intro w hSw; (try dsimp only at hSw); go_simp; (try with_reducible rfl))
  (try simp only [getElem_toArray, getElem_cons_succ, getElem_cons_zero, Act.put, setIfInBounds_toArray, set_cons_zero, set_cons_succ])
  refine rd1 2 (by kernel_rfl) rfl (fun K hK => ?_)
  go_simp
  go_at_call 23
  refine (gtol_v h3 h4 h5 hL0).mono ?_
  rintro e w2 ⟨s6, A6, n6, c6, s7, A7, n7, c7, s8, A8, n8, c8, rfl, g6, g7, g8, hb⟩
  replace h0 := h0.below hb
  replace h1 := h1.below hb
  replace h2 := h2.below hb
  replace h3 := h3.below hb
  replace h4 := h4.below hb
  replace h5 := h5.below hb
  replace b0 := b0.below hb
  replace b1 := b1.below hb
  replace H0 := H0.trans (hb.mono H0.size)
  clear hb
  go_wp2_with fail
  refine hK.out _ _ (b0.and6 (b1.all6)) (fun hHeld => ?_)
  clear hK K
  (try simp only [getElem_toArray, getElem_cons_succ, getElem_cons_zero, Act.put, setIfInBounds_toArray, set_cons_zero, set_cons_succ])
  refine rd1 3 (by kernel_rfl) rfl (fun K hK => ?_)
  go_simp
  go_at_call 15
  refine (gsamel_t h0 h1 h2 g6 g7 g8 HE0.out HE1.out HE2.out).mono ?_
  rintro e w3 ⟨rfl, hb⟩
  replace h0 := h0.below hb
  replace h1 := h1.below hb
  replace h2 := h2.below hb
  replace h3 := h3.below hb
  replace h4 := h4.below hb
  replace h5 := h5.below hb
  replace g6 := g6.below hb
  replace g7 := g7.below hb
  replace g8 := g8.below hb
  replace b0 := b0.below hb
  replace b1 := b1.below hb
  replace H0 := H0.trans (hb.mono H0.size)
  clear hb
  clear g6
  clear g7
  clear g8
  go_wp2_with fail
  refine hK.out _ _ (b0.and6 (b1.all6)) (fun hHeld => ?_)
  clear hK K
  (try simp only [getElem_toArray, getElem_cons_succ, getElem_cons_zero, Act.put, setIfInBounds_toArray, set_cons_zero, set_cons_succ])
  refine tk 4 ?_ rfl (by kernel_rfl) (by kernel_rfl) (by kernel_rfl) (fun _ _ _ h => h) (by rfl) ?_ (by assumption) ?_
  rotate_left
  · (intro w hSw; (try dsimp only at hSw); go_simp; (try with_reducible rfl))
  (try simp only [getElem_toArray, getElem_cons_succ, getElem_cons_zero, Act.put, setIfInBounds_toArray, set_cons_zero, set_cons_succ])
  refine wpAnyH_done (by kernel_rfl) ?_ _
  refine NoPanic.normal ?_
  go_wp2_with fail
  go_returns
  exact ⟨rfl, H0⟩
end
end Go.Proofs.YtancgkmkbgkncaaGreat
namespace Go.Proofs.YtancgkmkbgkncaaGreat
open List (getElem_toArray getElem_cons_succ getElem_cons_zero setIfInBounds_toArray set_cons_zero set_cons_succ)
open Go.RowKit

section
variable {A0 A1 A2 A3 A4 A5 A6 A7 A8 A9 A10 A11 A12 A13 A14 A15 A16 A17 D0 D1 D2 D3 D4 D5 D6 D7 : Option Addr} {n0 n1 n2 n3 n4 n5 n6 n7 n8 n9 n10 n11 n12 n13 n14 n15 n16 n17 c0 c1 c2 c3 c4 c5 c6 c7 c8 c9 c10 c11 c12 c13 c14 c15 c16 c17 m0 m1 m2 m3 m4 m5 m6 m7 e0 e1 e2 e3 e4 e5 e6 e7 : Nat} {s0 s1 s2 s3 s4 s5 s6 s7 s8 s9 s10 s11 s12 s13 s14 s15 s16 s17 : Bool} {q0 q1 q2 q3 q4 q5 q6 q7 : Rat} {z0 z1 z2 z3 z4 z5 z6 z7 z8 z9 z10 z11 : Int} {L L0 L1 x y : Nat} {k : Int} {b : Bool} {w : World}
set_option maxRecDepth 100000 in
set_option maxHeartbeats 4000000 in
theorem lprim_z (h0 : RI w s0 (.slice A0 n0 c0) z0 L) (h1 : RI w s1 (.slice A1 n1 c1) z1 L) (hz : z0 = 0 ∧ z1 = 0) :
    Calls Tryz.prog 60 #[.agg #[.bool s0, .slice A0 n0 c0, .bool s1, .slice A1 n1 c1, .bool s2, .slice A2 n2 c2]] w fun e w' => e = .returned (.tuple #[.agg #[.bool false, .slice none 0 0, .bool false, .slice none 0 0, .bool false, .slice none 0 0], .bool false]) ∧ Below w.heap.size w w' := by
  have HK : Hid ((decide (z0 = 0) && decide (z1 = 0)) = true) := Lib.hid (by rw [hz.1, hz.2]; rfl)
  clear hz
  go_enter Tryz.func60, Tryz.ntmps60
  go_wp2_with fail
  obtain ⟨W0, hW, b0, b9, hbW, hszW0⟩ := boxes2 w #[.bool s0, .slice A0 n0 c0, .bool s1, .slice A1 n1 c1, .bool s2, .slice A2 n2 c2] #[.bool false, .slice none 0 0, .bool false, .slice none 0 0, .bool false, .slice none 0 0] 95 30
  rw [hW]
  clear hW
  replace h0 := h0.below hbW
  replace h1 := h1.below hbW
  have H0 := hbW
  clear hbW
  obtain ⟨cb00, cb01, cb02, cb03, cb04, cb05⟩ := b0.cells6
  go_wp2_with fail
  clear cb00 cb01 cb02 cb03 cb04 cb05
  refine (ldegen_v h0 h1 HK.out).mono ?_
  rintro e w1 ⟨rfl, hb⟩
  replace h0 := h0.below hb
  replace h1 := h1.below hb
  replace b0 := b0.below hb
  replace b9 := b9.below hb
  replace H0 := H0.trans (hb.mono H0.size)
  clear hb
  obtain ⟨cb90, yb90, cb91, yb91, cb92, yb92, cb93, yb93, cb94, yb94, cb95, yb95⟩ := b9.cf6
  go_wp2_with fail
  clear cb90 yb90 cb91 yb91 cb92 yb92 cb93 yb93 cb94 yb94 cb95 yb95
  have hg := only_store6 w1 (w.heap.size + 1) (.bool false) (.slice none 0 0) (.bool false) (.slice none 0 0) (.bool false) (.slice none 0 0)
  have hB := b9.stored6 (.bool false) (.slice none 0 0) (.bool false) (.slice none 0 0) (.bool false) (.slice none 0 0)
  generalize hX : ((((((w1.setCell ⟨w.heap.size + 1, 0, none⟩ (.bool false)).setCell ⟨w.heap.size + 1, 1, none⟩ (.slice none 0 0)).setCell ⟨w.heap.size + 1, 2, none⟩ (.bool false)).setCell ⟨w.heap.size + 1, 3, none⟩ (.slice none 0 0)).setCell ⟨w.heap.size + 1, 4, none⟩ (.bool false)).setCell ⟨w.heap.size + 1, 5, none⟩ (.slice none 0 0)) = X2 at hg hB ⊢
  clear hX
  replace h0 := h0.kept b9 (by simp [notInt]) hg
  replace h1 := h1.kept b9 (by simp [notInt]) hg
  replace b0 := b0.other hg (by omega)
  replace b9 := hB
  replace H0 := below_only H0 hg (by omega) H0.size
  clear hg hB
  refine bodyPost_ret (ret_linep_b rfl rfl b9) rfl ?_
  exact ⟨rfl, H0⟩
end
end Go.Proofs.YtancgkmkbgkncaaGreat
namespace Go.Proofs.YtancgkmkbgkncaaGreat
open List (getElem_toArray getElem_cons_succ getElem_cons_zero setIfInBounds_toArray set_cons_zero set_cons_succ)
open Go.RowKit

section
variable {A0 A1 A2 A3 A4 A5 A6 A7 A8 A9 A10 A11 A12 A13 A14 A15 A16 A17 D0 D1 D2 D3 D4 D5 D6 D7 : Option Addr} {n0 n1 n2 n3 n4 n5 n6 n7 n8 n9 n10 n11 n12 n13 n14 n15 n16 n17 c0 c1 c2 c3 c4 c5 c6 c7 c8 c9 c10 c11 c12 c13 c14 c15 c16 c17 m0 m1 m2 m3 m4 m5 m6 m7 e0 e1 e2 e3 e4 e5 e6 e7 : Nat} {s0 s1 s2 s3 s4 s5 s6 s7 s8 s9 s10 s11 s12 s13 s14 s15 s16 s17 : Bool} {q0 q1 q2 q3 q4 q5 q6 q7 : Rat} {z0 z1 z2 z3 z4 z5 z6 z7 z8 z9 z10 z11 : Int} {L L0 L1 x y : Nat} {k : Int} {b : Bool} {w : World}
set_option maxRecDepth 100000 in
set_option maxHeartbeats 4000000 in
theorem lnew_z (h0 : RI w s0 (.slice A0 n0 c0) z0 L) (h1 : RI w s1 (.slice A1 n1 c1) z1 L) (hz : z0 = 0 ∧ z1 = 0) :
    Calls Tryz.prog 11 #[.agg #[.bool s0, .slice A0 n0 c0], .agg #[.bool s1, .slice A1 n1 c1], .agg #[.bool s2, .slice A2 n2 c2]] w fun e w' => e = .returned (.tuple #[.agg #[.bool false, .slice none 0 0, .bool false, .slice none 0 0, .bool false, .slice none 0 0], .bool false]) ∧ Below w.heap.size w w' := by
  have HZ := Lib.hid hz
  clear hz
  go_enter Tryz.func11, Tryz.ntmps11
  go_wp2_with fail
  obtain ⟨W0, hW, b0, b1, b2, b9, hbW, hszW0⟩ := boxes4 w #[.bool s0, .slice A0 n0 c0] #[.bool s1, .slice A1 n1 c1] #[.bool s2, .slice A2 n2 c2] #[.bool false, .slice none 0 0, .bool false, .slice none 0 0, .bool false, .slice none 0 0] 25 25 25 30
  rw [hW]
  clear hW
  replace h0 := h0.below hbW
  replace h1 := h1.below hbW
  have H0 := hbW
  clear hbW
  obtain ⟨cb00, cb01⟩ := b0.cells2
  obtain ⟨cb10, cb11⟩ := b1.cells2
  obtain ⟨cb20, cb21⟩ := b2.cells2
  go_wp2_with fail
  clear cb00 cb01 cb10 cb11 cb20 cb21
  refine (lprim_z h0 h1 HZ.out).mono ?_
  rintro e w1 ⟨rfl, hb⟩
  replace h0 := h0.below hb
  replace h1 := h1.below hb
  replace b0 := b0.below hb
  replace b1 := b1.below hb
  replace b2 := b2.below hb
  replace b9 := b9.below hb
  replace H0 := H0.trans (hb.mono H0.size)
  clear hb
  obtain ⟨cb90, yb90, cb91, yb91, cb92, yb92, cb93, yb93, cb94, yb94, cb95, yb95⟩ := b9.cf6
  go_wp2_with fail
  clear cb90 yb90 cb91 yb91 cb92 yb92 cb93 yb93 cb94 yb94 cb95 yb95
  have hg := only_store6 w1 (w.heap.size + 1 + 1 + 1) (.bool false) (.slice none 0 0) (.bool false) (.slice none 0 0) (.bool false) (.slice none 0 0)
  have hB := b9.stored6 (.bool false) (.slice none 0 0) (.bool false) (.slice none 0 0) (.bool false) (.slice none 0 0)
  generalize hX : ((((((w1.setCell ⟨w.heap.size + 1 + 1 + 1, 0, none⟩ (.bool false)).setCell ⟨w.heap.size + 1 + 1 + 1, 1, none⟩ (.slice none 0 0)).setCell ⟨w.heap.size + 1 + 1 + 1, 2, none⟩ (.bool false)).setCell ⟨w.heap.size + 1 + 1 + 1, 3, none⟩ (.slice none 0 0)).setCell ⟨w.heap.size + 1 + 1 + 1, 4, none⟩ (.bool false)).setCell ⟨w.heap.size + 1 + 1 + 1, 5, none⟩ (.slice none 0 0)) = X2 at hg hB ⊢
  clear hX
  replace h0 := h0.kept b9 (by simp [notInt]) hg
  replace h1 := h1.kept b9 (by simp [notInt]) hg
  replace b0 := b0.other hg (by omega)
  replace b1 := b1.other hg (by omega)
  replace b2 := b2.other hg (by omega)
  replace b9 := hB
  replace H0 := below_only H0 hg (by omega) H0.size
  clear hg hB
  refine bodyPost_ret (ret_linep_b rfl rfl b9) rfl ?_
  exact ⟨rfl, H0⟩
set_option maxRecDepth 100000 in
set_option maxHeartbeats 4000000 in
theorem lnew_v (h0 : RI w s0 (.slice A0 n0 c0) z0 L) (h1 : RI w s1 (.slice A1 n1 c1) z1 L) (h2 : RI w s2 (.slice A2 n2 c2) z2 L) (hz : ¬ (z0 = 0 ∧ z1 = 0)) (hL : L ≤ 100000) :
    Calls Tryz.prog 11 #[.agg #[.bool s0, .slice A0 n0 c0], .agg #[.bool s1, .slice A1 n1 c1], .agg #[.bool s2, .slice A2 n2 c2]] w fun e w' => ∃ s3 A3 n3 c3 s4 A4 n4 c4 s5 A5 n5 c5, e = .returned (.tuple #[.agg #[.bool s3, .slice A3 n3 c3, .bool s4, .slice A4 n4 c4, .bool s5, .slice A5 n5 c5], .bool true]) ∧ NI w' s3 (.slice A3 n3 c3) (pr z0 z0 z1 z2) (L + 3) ∧ NI w' s4 (.slice A4 n4 c4) (pr z1 z0 z1 z2) (L + 3) ∧ NI w' s5 (.slice A5 n5 c5) (pr z2 z0 z1 z2) (L + 3) ∧ Below w.heap.size w w' := by
  have HZ := Lib.hid hz
  clear hz
  go_enter Tryz.func11, Tryz.ntmps11
  go_wp2_with fail
  obtain ⟨W0, hW, b0, b1, b2, b9, hbW, hszW0⟩ := boxes4 w #[.bool s0, .slice A0 n0 c0] #[.bool s1, .slice A1 n1 c1] #[.bool s2, .slice A2 n2 c2] #[.bool false, .slice none 0 0, .bool false, .slice none 0 0, .bool false, .slice none 0 0] 25 25 25 30
  rw [hW]
  clear hW
  replace h0 := h0.below hbW
  replace h1 := h1.below hbW
  replace h2 := h2.below hbW
  have H0 := hbW
  clear hbW
  obtain ⟨cb00, cb01⟩ := b0.cells2
  obtain ⟨cb10, cb11⟩ := b1.cells2
  obtain ⟨cb20, cb21⟩ := b2.cells2
  go_wp2_with fail
  clear cb00 cb01 cb10 cb11 cb20 cb21
  refine (lprim_v h0 h1 h2 HZ.out hL).mono ?_
  rintro e w1 ⟨s3, A3, n3, c3, s4, A4, n4, c4, s5, A5, n5, c5, rfl, g3, g4, g5, hb⟩
  replace h0 := h0.below hb
  replace h1 := h1.below hb
  replace h2 := h2.below hb
  replace b0 := b0.below hb
  replace b1 := b1.below hb
  replace b2 := b2.below hb
  replace b9 := b9.below hb
  replace H0 := H0.trans (hb.mono H0.size)
  clear hb
  obtain ⟨cb90, yb90, cb91, yb91, cb92, yb92, cb93, yb93, cb94, yb94, cb95, yb95⟩ := b9.cf6
  go_wp2_with fail
  clear cb90 yb90 cb91 yb91 cb92 yb92 cb93 yb93 cb94 yb94 cb95 yb95
  have hg := only_store6 w1 (w.heap.size + 1 + 1 + 1) (.bool s3) (.slice A3 n3 c3) (.bool s4) (.slice A4 n4 c4) (.bool s5) (.slice A5 n5 c5)
  have hB := b9.stored6 (.bool s3) (.slice A3 n3 c3) (.bool s4) (.slice A4 n4 c4) (.bool s5) (.slice A5 n5 c5)
  generalize hX : ((((((w1.setCell ⟨w.heap.size + 1 + 1 + 1, 0, none⟩ (.bool s3)).setCell ⟨w.heap.size + 1 + 1 + 1, 1, none⟩ (.slice A3 n3 c3)).setCell ⟨w.heap.size + 1 + 1 + 1, 2, none⟩ (.bool s4)).setCell ⟨w.heap.size + 1 + 1 + 1, 3, none⟩ (.slice A4 n4 c4)).setCell ⟨w.heap.size + 1 + 1 + 1, 4, none⟩ (.bool s5)).setCell ⟨w.heap.size + 1 + 1 + 1, 5, none⟩ (.slice A5 n5 c5)) = X2 at hg hB ⊢
  clear hX
  replace h0 := h0.kept b9 (by simp [notInt]) hg
  replace h1 := h1.kept b9 (by simp [notInt]) hg
  replace h2 := h2.kept b9 (by simp [notInt]) hg
  replace g3 := g3.kept b9 (by simp [notInt]) hg
  replace g4 := g4.kept b9 (by simp [notInt]) hg
  replace g5 := g5.kept b9 (by simp [notInt]) hg
  replace b0 := b0.other hg (by omega)
  replace b1 := b1.other hg (by omega)
  replace b2 := b2.other hg (by omega)
  replace b9 := hB
  replace H0 := below_only H0 hg (by omega) H0.size
  clear hg hB
  refine bodyPost_ret (ret_linep_b rfl rfl b9) rfl ?_
  exact ⟨_, _, _, _, _, _, _, _, _, _, _, _, rfl, g3, g4, g5, H0⟩
set_option maxRecDepth 100000 in
set_option maxHeartbeats 4000000 in
theorem lthrough_z (h : NQ w s0 (.slice A0 n0 c0) (.slice D0 m0 e0) q0 L) (h' : NQ w s1 (.slice A1 n1 c1) (.slice D1 m1 e1) q1 L) (k : NQ w s2 (.slice A2 n2 c2) (.slice D2 m2 e2) q2 L) (k' : NQ w s3 (.slice A3 n3 c3) (.slice D3 m3 e3) q3 L) (hz : q0 = q2 ∧ q1 = q3) (hL : L ≤ 10000) :
    Calls Tryz.prog 18 #[.agg #[.bool s0, .slice A0 n0 c0, .slice D0 m0 e0, .bool s1, .slice A1 n1 c1, .slice D1 m1 e1], .agg #[.bool s2, .slice A2 n2 c2, .slice D2 m2 e2, .bool s3, .slice A3 n3 c3, .slice D3 m3 e3]] w fun e w' => e = .returned (.tuple #[.agg #[.bool false, .slice none 0 0, .bool false, .slice none 0 0, .bool false, .slice none 0 0], .bool false]) ∧ Below w.heap.size w w' := by
  have HZ := Lib.hid hz
  clear hz
  go_enter Tryz.func18, Tryz.ntmps18
  go_wp2_with fail
  obtain ⟨W0, hW, b0, b1, b9, hbW, hszW0⟩ := boxes3 w #[.bool s0, .slice A0 n0 c0, .slice D0 m0 e0, .bool s1, .slice A1 n1 c1, .slice D1 m1 e1] #[.bool s2, .slice A2 n2 c2, .slice D2 m2 e2, .bool s3, .slice A3 n3 c3, .slice D3 m3 e3] #[.bool false, .slice none 0 0, .bool false, .slice none 0 0, .bool false, .slice none 0 0] 54 54 30
  rw [hW]
  clear hW
  replace h := h.below hbW
  replace h' := h'.below hbW
  replace k := k.below hbW
  replace k' := k'.below hbW
  have H0 := hbW
  clear hbW
  have hD := drawn_below W0
  replace h := h.below hD
  replace h' := h'.below hD
  replace k := k.below hD
  replace k' := k'.below hD
  replace b0 := b0.below hD
  replace b1 := b1.below hD
  replace b9 := b9.below hD
  replace H0 := H0.trans (hD.mono H0.size)
  clear hD
  refine wp_region_noPanic ?_
  refine wp_region_held_drew (S := (fun V => V.cell? ⟨w.heap.size, 0, none⟩ = some (.bool s0) ∧ V.cell? ⟨w.heap.size, 1, none⟩ = some (.slice A0 n0 c0) ∧ V.cell? ⟨w.heap.size, 2, none⟩ = some (.slice D0 m0 e0) ∧ V.cell? ⟨w.heap.size, 3, none⟩ = some (.bool s1) ∧ V.cell? ⟨w.heap.size, 4, none⟩ = some (.slice A1 n1 c1) ∧ V.cell? ⟨w.heap.size, 5, none⟩ = some (.slice D1 m1 e1) ∧ V.cell? ⟨w.heap.size + 1, 0, none⟩ = some (.bool s2) ∧ V.cell? ⟨w.heap.size + 1, 1, none⟩ = some (.slice A2 n2 c2) ∧ V.cell? ⟨w.heap.size + 1, 2, none⟩ = some (.slice D2 m2 e2) ∧ V.cell? ⟨w.heap.size + 1, 3, none⟩ = some (.bool s3) ∧ V.cell? ⟨w.heap.size + 1, 4, none⟩ = some (.slice A3 n3 c3) ∧ V.cell? ⟨w.heap.size + 1, 5, none⟩ = some (.slice D3 m3 e3))) (by kernel_rfl) (b0.and6 (b1.all6)) (fun hHeld => ?_)
  generalize W0.drew = v1 at H0 hHeld h h' k k' b0 b1 b9 ⊢
  refine tk 0 ?_ rfl (by kernel_rfl) (by kernel_rfl) (by kernel_rfl) (fun _ _ _ h => h) (by rfl) ?_ (by assumption) ?_
  rotate_left
  · (intro w hSw; (try dsimp only at hSw); go_simp; (try with_reducible rfl))
  (try simp only [getElem_toArray, getElem_cons_zero, Act.put, setIfInBounds_toArray, set_cons_zero, set_cons_succ])
  refine tk 2 ?_ rfl (by kernel_rfl) (by kernel_rfl) (by kernel_rfl) (fun _ _ _ h => h) (by rfl) ?_ (by assumption) ?_
  rotate_left
  · (intro w hSw; (try dsimp only at hSw); go_simp; (try with_reducible rfl))
  (try simp only [getElem_toArray, getElem_cons_succ, getElem_cons_zero, Act.put, setIfInBounds_toArray, set_cons_zero, set_cons_succ])
  refine rd1 1 (by kernel_rfl) rfl (fun K hK => ?_)
  go_simp
  go_at_call 67
  refine (lhomog_v h h' (by omega)).mono ?_
  rintro e w2 ⟨ua, ub, ud, s9, A9, n9, c9, s10, A10, n10, c10, s11, A11, n11, c11, rfl, g9, g10, g11, hm, hb⟩
  replace h := h.below hb
  replace h' := h'.below hb
  replace k := k.below hb
  replace k' := k'.below hb
  replace b0 := b0.below hb
  replace b1 := b1.below hb
  replace b9 := b9.below hb
  replace H0 := H0.trans (hb.mono H0.size)
  clear hb
  clear h
  clear h'
  go_wp2_with fail
  refine hK.out _ _ (b0.and6 (b1.all6)) (fun hHeld => ?_)
  clear hK K
  (try simp only [getElem_toArray, getElem_cons_succ, getElem_cons_zero, Act.put, setIfInBounds_toArray, set_cons_zero, set_cons_succ])
  refine rd1 3 (by kernel_rfl) rfl (fun K hK => ?_)
  go_simp
  go_at_call 67
  refine (lhomog_v k k' (by omega)).mono ?_
  rintro e w3 ⟨va, vb, vd, s12, A12, n12, c12, s13, A13, n13, c13, s14, A14, n14, c14, rfl, g12, g13, g14, hm', hb⟩
  replace k := k.below hb
  replace k' := k'.below hb
  replace g9 := g9.below hb
  replace g10 := g10.below hb
  replace g11 := g11.below hb
  replace b0 := b0.below hb
  replace b1 := b1.below hb
  replace b9 := b9.below hb
  replace H0 := H0.trans (hb.mono H0.size)
  clear hb
  clear k
  clear k'
  go_wp2_with fail
  refine hK.out _ _ (b0.and6 (b1.all6)) (fun hHeld => ?_)
  clear hK K
  (try simp only [getElem_toArray, getElem_cons_succ, getElem_cons_zero, Act.put, setIfInBounds_toArray, set_cons_zero, set_cons_succ])
  refine rd1 4 (by kernel_rfl) rfl (fun K hK => ?_)
  go_simp
  go_at_call 66
  refine (lcross_v g9.ri g10.ri g11.ri g12.ri g13.ri g14.ri (by omega)).mono ?_
  rintro e w4 ⟨s15, A15, n15, c15, s16, A16, n16, c16, s17, A17, n17, c17, rfl, g15, g16, g17, hb⟩
  replace g9 := g9.below hb
  replace g10 := g10.below hb
  replace g11 := g11.below hb
  replace g12 := g12.below hb
  replace g13 := g13.below hb
  replace g14 := g14.below hb
  replace b0 := b0.below hb
  replace b1 := b1.below hb
  replace b9 := b9.below hb
  replace H0 := H0.trans (hb.mono H0.size)
  clear hb
  clear g9
  clear g10
  clear g11
  clear g12
  clear g13
  clear g14
  go_wp2_with fail
  refine hK.out _ _ (b0.and6 (b1.all6)) (fun hHeld => ?_)
  clear hK K
  (try simp only [getElem_toArray, getElem_cons_succ, getElem_cons_zero, Act.put, setIfInBounds_toArray, set_cons_zero, set_cons_succ])
  refine rd1 5 (by kernel_rfl) rfl (fun K hK => ?_)
  go_simp
  go_at_call 60
  refine (lprim_z g15.ri g16.ri ((thr_zero (hom_thr hm hm')).2 HZ.out)).mono ?_
  rintro e w5 ⟨rfl, hb⟩
  replace g15 := g15.below hb
  replace g16 := g16.below hb
  replace g17 := g17.below hb
  replace b0 := b0.below hb
  replace b1 := b1.below hb
  replace b9 := b9.below hb
  replace H0 := H0.trans (hb.mono H0.size)
  clear hb
  clear g15
  clear g16
  clear g17
  go_wp2_with fail
  refine hK.out _ _ (b0.and6 (b1.all6)) (fun hHeld => ?_)
  clear hK K
  (try simp only [getElem_toArray, getElem_cons_succ, getElem_cons_zero, Act.put, setIfInBounds_toArray, set_cons_zero, set_cons_succ])
  refine tk 6 ?_ rfl (by kernel_rfl) (by kernel_rfl) (by kernel_rfl) (fun _ _ _ h => h) (by rfl) ?_ (by assumption) ?_
  rotate_left
  · (intro w hSw; (try dsimp only at hSw); go_simp; (try with_reducible rfl))
  (try simp only [getElem_toArray, getElem_cons_succ, getElem_cons_zero, Act.put, setIfInBounds_toArray, set_cons_zero, set_cons_succ])
  refine tk 7 ?_ rfl (by kernel_rfl) (by kernel_rfl) (by kernel_rfl) (fun _ _ _ h => h) (by rfl) ?_ (by assumption) ?_
  rotate_left
  · (intro w hSw; (try dsimp only at hSw); go_simp; (try with_reducible rfl))
  (try simp only [getElem_toArray, getElem_cons_succ, getElem_cons_zero, Act.put, setIfInBounds_toArray, set_cons_zero, set_cons_succ])
  obtain ⟨cb90, yb90, cb91, yb91, cb92, yb92, cb93, yb93, cb94, yb94, cb95, yb95⟩ := b9.cf6
  refine rd1 8 (by kernel_rfl) rfl (fun K hK => ?_)
  go_simp
  clear cb90 yb90 cb91 yb91 cb92 yb92 cb93 yb93 cb94 yb94 cb95 yb95
  have hg := only_store6 w5 (w.heap.size + 1 + 1) (.bool false) (.slice none 0 0) (.bool false) (.slice none 0 0) (.bool false) (.slice none 0 0)
  have hB := b9.stored6 (.bool false) (.slice none 0 0) (.bool false) (.slice none 0 0) (.bool false) (.slice none 0 0)
  generalize hX : ((((((w5.setCell ⟨w.heap.size + 1 + 1, 0, none⟩ (.bool false)).setCell ⟨w.heap.size + 1 + 1, 1, none⟩ (.slice none 0 0)).setCell ⟨w.heap.size + 1 + 1, 2, none⟩ (.bool false)).setCell ⟨w.heap.size + 1 + 1, 3, none⟩ (.slice none 0 0)).setCell ⟨w.heap.size + 1 + 1, 4, none⟩ (.bool false)).setCell ⟨w.heap.size + 1 + 1, 5, none⟩ (.slice none 0 0)) = X6 at hg hB ⊢
  clear hX
  replace b0 := b0.other hg (by omega)
  replace b1 := b1.other hg (by omega)
  replace b9 := hB
  replace H0 := below_only H0 hg (by omega) H0.size
  clear hg hB
  refine hK.out _ _ (b0.and6 (b1.all6)) (fun hHeld => ?_)
  clear hK K
  (try simp only [getElem_toArray, getElem_cons_succ, getElem_cons_zero, Act.put, setIfInBounds_toArray, set_cons_zero, set_cons_succ])
  refine tk 9 ?_ rfl (by kernel_rfl) (by kernel_rfl) (by kernel_rfl) (fun _ _ _ h => h) (by rfl) ?_ (by assumption) ?_
  rotate_left
  · (intro w hSw; (try dsimp only at hSw); go_simp; (try with_reducible rfl))
  (try simp only [getElem_toArray, getElem_cons_succ, getElem_cons_zero, Act.put, setIfInBounds_toArray, set_cons_zero, set_cons_succ])
  refine wpAnyH_done (by kernel_rfl) ?_ _
  refine NoPanic.normal ?_
  go_wp2_with fail
  refine bodyPost_ret (ret_linep_b rfl rfl b9) rfl ?_
  exact ⟨rfl, H0⟩
end
end Go.Proofs.YtancgkmkbgkncaaGreat
namespace Go.Proofs.YtancgkmkbgkncaaGreat
open List (getElem_toArray getElem_cons_succ getElem_cons_zero setIfInBounds_toArray set_cons_zero set_cons_succ)
open Go.RowKit

section
variable {A0 A1 A2 A3 A4 A5 A6 A7 D0 D1 D2 D3 D4 D5 D6 D7 : Option Addr} {n0 n1 n2 n3 n4 n5 n6 n7 c0 c1 c2 c3 c4 c5 c6 c7 m0 m1 m2 m3 m4 m5 m6 m7 e0 e1 e2 e3 e4 e5 e6 e7 : Nat} {s0 s1 s2 s3 s4 s5 s6 s7 : Bool} {q0 q1 q2 q3 q4 q5 q6 q7 : Rat} {z z' z0 z1 : Int} {L L0 L1 x x0 x1 y : Nat} {k : Int} {b : Bool} {w : World}
set_option maxRecDepth 100000 in
set_option maxHeartbeats 4000000 in
theorem npart_v {d : Nat} (z : Int) (h0 : -9223372036854775808 ≤ z) (h1 : z ≤ 9223372036854775807) (hd : d = 2 ∨ d = 3 ∨ d = 4) :
    Calls Tryz.prog 77 #[.int .i64 z, .int .i64 (d : Int)] w fun e w' => ∃ s3 A3 n3 c3 D3 m3 e3, e = .returned (.agg #[.bool s3, .slice A3 n3 c3, .slice D3 m3 e3]) ∧ PQ w' s3 (.slice A3 n3 c3) (.slice D3 m3 e3) (mkRat z d) (2) ∧ Below w.heap.size w w' := by
  rcases hd with rfl | rfl | rfl
  · skip
    go_enter Tryz.func77, Tryz.ntmps77
    go_wp2_with fail
    obtain ⟨W0, hW, b0, hbW, hszW0⟩ := boxes1 w #[.bool false, .slice none 0 0, .slice none 0 0] 46
    rw [hW]
    clear hW
    have H0 := hbW
    clear hbW
    refine (nint_v z h0 h1 _).mono ?_
    rintro e w1 ⟨s1, A1, n1, c1, rfl, g1, hb⟩
    replace b0 := b0.below hb
    replace H0 := H0.trans (hb.mono H0.size)
    clear hb
    go_wp2_with fail
    refine (word_v 2 (by decide) _).mono ?_
    rintro e w2 ⟨A2, n2, c2, rfl, g2, hb⟩
    replace g1 := g1.below hb
    replace b0 := b0.below hb
    replace H0 := H0.trans (hb.mono H0.size)
    clear hb
    go_wp2_with fail
    refine (nfrac_v g1 g2 (by decide) (by decide)).mono ?_
    rintro e w3 ⟨s3, A3, n3, c3, D3, m3, e3, rfl, g3, hb⟩
    replace g1 := g1.below hb
    replace g2 := g2.below hb
    replace b0 := b0.below hb
    replace H0 := H0.trans (hb.mono H0.size)
    clear hb
    clear g1
    clear g2
    obtain ⟨cb00, yb00, cb01, yb01, cb02, yb02⟩ := b0.cf3
    go_wp2_with fail
    clear cb00 yb00 cb01 yb01 cb02 yb02
    have hg := only_store3 w3 (w.heap.size) (.bool s3) (.slice A3 n3 c3) (.slice D3 m3 e3)
    have hB := b0.stored3 (.bool s3) (.slice A3 n3 c3) (.slice D3 m3 e3)
    generalize hX : (((w3.setCell ⟨w.heap.size, 0, none⟩ (.bool s3)).setCell ⟨w.heap.size, 1, none⟩ (.slice A3 n3 c3)).setCell ⟨w.heap.size, 2, none⟩ (.slice D3 m3 e3)) = X4 at hg hB ⊢
    clear hX
    replace g3 := g3.kept b0 (by simp [notInt]) hg
    replace b0 := hB
    replace H0 := below_only H0 hg (by omega) H0.size
    clear hg hB
    refine bodyPost_ret (ret_numq rfl rfl b0) rfl ?_
    exact ⟨s3, A3, n3, c3, D3, m3, e3, rfl, g3, H0⟩
  · skip
    go_enter Tryz.func77, Tryz.ntmps77
    go_wp2_with fail
    obtain ⟨W0, hW, b0, hbW, hszW0⟩ := boxes1 w #[.bool false, .slice none 0 0, .slice none 0 0] 46
    rw [hW]
    clear hW
    have H0 := hbW
    clear hbW
    refine (nint_v z h0 h1 _).mono ?_
    rintro e w1 ⟨s1, A1, n1, c1, rfl, g1, hb⟩
    replace b0 := b0.below hb
    replace H0 := H0.trans (hb.mono H0.size)
    clear hb
    go_wp2_with fail
    refine (word_v 3 (by decide) _).mono ?_
    rintro e w2 ⟨A2, n2, c2, rfl, g2, hb⟩
    replace g1 := g1.below hb
    replace b0 := b0.below hb
    replace H0 := H0.trans (hb.mono H0.size)
    clear hb
    go_wp2_with fail
    refine (nfrac_v g1 g2 (by decide) (by decide)).mono ?_
    rintro e w3 ⟨s3, A3, n3, c3, D3, m3, e3, rfl, g3, hb⟩
    replace g1 := g1.below hb
    replace g2 := g2.below hb
    replace b0 := b0.below hb
    replace H0 := H0.trans (hb.mono H0.size)
    clear hb
    clear g1
    clear g2
    obtain ⟨cb00, yb00, cb01, yb01, cb02, yb02⟩ := b0.cf3
    go_wp2_with fail
    clear cb00 yb00 cb01 yb01 cb02 yb02
    have hg := only_store3 w3 (w.heap.size) (.bool s3) (.slice A3 n3 c3) (.slice D3 m3 e3)
    have hB := b0.stored3 (.bool s3) (.slice A3 n3 c3) (.slice D3 m3 e3)
    generalize hX : (((w3.setCell ⟨w.heap.size, 0, none⟩ (.bool s3)).setCell ⟨w.heap.size, 1, none⟩ (.slice A3 n3 c3)).setCell ⟨w.heap.size, 2, none⟩ (.slice D3 m3 e3)) = X4 at hg hB ⊢
    clear hX
    replace g3 := g3.kept b0 (by simp [notInt]) hg
    replace b0 := hB
    replace H0 := below_only H0 hg (by omega) H0.size
    clear hg hB
    refine bodyPost_ret (ret_numq rfl rfl b0) rfl ?_
    exact ⟨s3, A3, n3, c3, D3, m3, e3, rfl, g3, H0⟩
  · skip
    go_enter Tryz.func77, Tryz.ntmps77
    go_wp2_with fail
    obtain ⟨W0, hW, b0, hbW, hszW0⟩ := boxes1 w #[.bool false, .slice none 0 0, .slice none 0 0] 46
    rw [hW]
    clear hW
    have H0 := hbW
    clear hbW
    refine (nint_v z h0 h1 _).mono ?_
    rintro e w1 ⟨s1, A1, n1, c1, rfl, g1, hb⟩
    replace b0 := b0.below hb
    replace H0 := H0.trans (hb.mono H0.size)
    clear hb
    go_wp2_with fail
    refine (word_v 4 (by decide) _).mono ?_
    rintro e w2 ⟨A2, n2, c2, rfl, g2, hb⟩
    replace g1 := g1.below hb
    replace b0 := b0.below hb
    replace H0 := H0.trans (hb.mono H0.size)
    clear hb
    go_wp2_with fail
    refine (nfrac_v g1 g2 (by decide) (by decide)).mono ?_
    rintro e w3 ⟨s3, A3, n3, c3, D3, m3, e3, rfl, g3, hb⟩
    replace g1 := g1.below hb
    replace g2 := g2.below hb
    replace b0 := b0.below hb
    replace H0 := H0.trans (hb.mono H0.size)
    clear hb
    clear g1
    clear g2
    obtain ⟨cb00, yb00, cb01, yb01, cb02, yb02⟩ := b0.cf3
    go_wp2_with fail
    clear cb00 yb00 cb01 yb01 cb02 yb02
    have hg := only_store3 w3 (w.heap.size) (.bool s3) (.slice A3 n3 c3) (.slice D3 m3 e3)
    have hB := b0.stored3 (.bool s3) (.slice A3 n3 c3) (.slice D3 m3 e3)
    generalize hX : (((w3.setCell ⟨w.heap.size, 0, none⟩ (.bool s3)).setCell ⟨w.heap.size, 1, none⟩ (.slice A3 n3 c3)).setCell ⟨w.heap.size, 2, none⟩ (.slice D3 m3 e3)) = X4 at hg hB ⊢
    clear hX
    replace g3 := g3.kept b0 (by simp [notInt]) hg
    replace b0 := hB
    replace H0 := below_only H0 hg (by omega) H0.size
    clear hg hB
    refine bodyPost_ret (ret_numq rfl rfl b0) rfl ?_
    exact ⟨s3, A3, n3, c3, D3, m3, e3, rfl, g3, H0⟩
theorem wrap2 {r : Nat} (hr : r < 9) : IntKind.i64.wrap (2 * ((r : Int) - 4)) = 2 * ((r : Int) - 4) := by simp [IntKind.wrap, IntKind.bits, IntKind.signed]; omega
theorem wrap21 {r : Nat} (hr : r < 9) : IntKind.i64.wrap (2 * ((r : Int) - 4) + 1) = 2 * ((r : Int) - 4) + 1 := by simp [IntKind.wrap, IntKind.bits, IntKind.signed]; omega
theorem wrap3 {r : Nat} (hr : r < 9) : IntKind.i64.wrap (3 * ((r : Int) - 4)) = 3 * ((r : Int) - 4) := by simp [IntKind.wrap, IntKind.bits, IntKind.signed]; omega
theorem wrap31 {r : Nat} (hr : r < 9) : IntKind.i64.wrap (3 * ((r : Int) - 4) + 1) = 3 * ((r : Int) - 4) + 1 := by simp [IntKind.wrap, IntKind.bits, IntKind.signed]; omega
set_option maxRecDepth 100000 in
set_option maxHeartbeats 4000000 in
theorem tq_v {b : Nat} (hT : Tape w b) (hb : b < w.heap.size) :
    Calls Tryz.prog 22 #[.pointer (some ⟨b, 0, none⟩)] w fun e w' => ∃ q, ∃ s1 A1 n1 c1 D1 m1 e1, e = .returned (.agg #[.bool s1, .slice A1 n1 c1, .slice D1 m1 e1]) ∧ PQ w' s1 (.slice A1 n1 c1) (.slice D1 m1 e1) q (2) ∧ Tape w' b ∧ w.grownBy w' (some b) := by
  go_enter Tryz.func22, Tryz.ntmps22
  go_wp2_with fail
  have G0 : w.grownBy w (some b) := ⟨rfl, rfl, rfl, Nat.le_refl _, fun _ _ _ => rfl⟩
  have hlt := hb
  obtain ⟨W0, hW, b0, hbW, hszW0⟩ := boxes1 w #[.bool false, .slice none 0 0, .slice none 0 0] 46
  rw [hW]
  clear hW
  replace hT := hT.keep hbW hlt
  replace hlt := Nat.lt_of_lt_of_le hlt hbW.size
  replace G0 := only_below G0 hbW G0.size
  clear hbW
  refine (next_any 9 (by omega) (by omega) hT).mono ?_
  rintro e w1 ⟨r, rfl, hr, hT', hg⟩
  replace b0 := b0.other hg (by omega)
  replace hlt := Nat.lt_of_lt_of_le hlt hg.size
  replace G0 := only_trans G0 hg
  clear hT
  have hT := hT'
  clear hT' hg
  have wr := wrap4 hr
  go_wp2_with fail
  refine (next_any 6 (by omega) (by omega) hT).mono ?_
  rintro e w2 ⟨r1, rfl, hr1, hT', hg⟩
  replace b0 := b0.other hg (by omega)
  replace hlt := Nat.lt_of_lt_of_le hlt hg.size
  replace G0 := only_trans G0 hg
  clear hT
  have hT := hT'
  clear hT' hg
  rcases Decidable.em (r1 = 0) with h1 | h1
  · skip
    subst h1
    have wr2 := wrap2 hr
    have wr3 := wrap21 hr
    go_wp2_with fail
    refine (npart_v (d := 2) (2 * ((r : Int) - 4) + 1) (by omega) (by omega) (by omega)).mono ?_
    rintro e w3 ⟨s1, A1, n1, c1, D1, m1, e1, rfl, g1, hb⟩
    replace b0 := b0.below hb
    replace hT := hT.keep hb hlt
    replace hlt := Nat.lt_of_lt_of_le hlt hb.size
    replace G0 := only_below G0 hb G0.size
    clear hb
    obtain ⟨cb00, yb00, cb01, yb01, cb02, yb02⟩ := b0.cf3
    go_wp2_with fail
    clear cb00 yb00 cb01 yb01 cb02 yb02
    have hg := only_store3 w3 (w.heap.size) (.bool s1) (.slice A1 n1 c1) (.slice D1 m1 e1)
    have hB := b0.stored3 (.bool s1) (.slice A1 n1 c1) (.slice D1 m1 e1)
    generalize hX : (((w3.setCell ⟨w.heap.size, 0, none⟩ (.bool s1)).setCell ⟨w.heap.size, 1, none⟩ (.slice A1 n1 c1)).setCell ⟨w.heap.size, 2, none⟩ (.slice D1 m1 e1)) = X4 at hg hB ⊢
    clear hX
    replace g1 := g1.kept b0 (by simp [notInt]) hg
    replace b0 := hB
    have hBs := below_only (Below.refl w.heap.size w3) hg (by omega) G0.size
    replace hT := hT.keep hBs hb
    replace G0 := only_below G0 hBs (Nat.le_refl _)
    replace hlt := Nat.lt_of_lt_of_le hlt hg.size
    clear hg hB hBs
    refine bodyPost_ret (ret_numq rfl rfl b0) rfl ?_
    exact ⟨_, s1, A1, n1, c1, D1, m1, e1, rfl, g1, hT, G0⟩
  · skip
    have hr0 : ((r1 : Int) == 0) = false := by rw [beq_eq_false_iff_ne]; omega
    rcases Decidable.em (r1 = 1) with h2 | h2
    · skip
      subst h2
      have wr2 := wrap3 hr
      have wr3 := wrap31 hr
      go_wp2_with fail
      refine (npart_v (d := 3) (3 * ((r : Int) - 4) + 1) (by omega) (by omega) (by omega)).mono ?_
      rintro e w3 ⟨s1, A1, n1, c1, D1, m1, e1, rfl, g1, hb⟩
      replace b0 := b0.below hb
      replace hT := hT.keep hb hlt
      replace hlt := Nat.lt_of_lt_of_le hlt hb.size
      replace G0 := only_below G0 hb G0.size
      clear hb
      obtain ⟨cb00, yb00, cb01, yb01, cb02, yb02⟩ := b0.cf3
      go_wp2_with fail
      clear cb00 yb00 cb01 yb01 cb02 yb02
      have hg := only_store3 w3 (w.heap.size) (.bool s1) (.slice A1 n1 c1) (.slice D1 m1 e1)
      have hB := b0.stored3 (.bool s1) (.slice A1 n1 c1) (.slice D1 m1 e1)
      generalize hX : (((w3.setCell ⟨w.heap.size, 0, none⟩ (.bool s1)).setCell ⟨w.heap.size, 1, none⟩ (.slice A1 n1 c1)).setCell ⟨w.heap.size, 2, none⟩ (.slice D1 m1 e1)) = X4 at hg hB ⊢
      clear hX
      replace g1 := g1.kept b0 (by simp [notInt]) hg
      replace b0 := hB
      have hBs := below_only (Below.refl w.heap.size w3) hg (by omega) G0.size
      replace hT := hT.keep hBs hb
      replace G0 := only_below G0 hBs (Nat.le_refl _)
      replace hlt := Nat.lt_of_lt_of_le hlt hg.size
      clear hg hB hBs
      refine bodyPost_ret (ret_numq rfl rfl b0) rfl ?_
      exact ⟨_, s1, A1, n1, c1, D1, m1, e1, rfl, g1, hT, G0⟩
    · skip
      have hr2 : ((r1 : Int) == 1) = false := by rw [beq_eq_false_iff_ne]; omega
      go_wp2_with fail
      refine (nof_v ((r : Int) - 4) (by omega) (by omega) _).mono ?_
      rintro e w3 ⟨s1, A1, n1, c1, D1, m1, e1, rfl, g1, hb⟩
      replace b0 := b0.below hb
      replace hT := hT.keep hb hlt
      replace hlt := Nat.lt_of_lt_of_le hlt hb.size
      replace G0 := only_below G0 hb G0.size
      clear hb
      obtain ⟨cb00, yb00, cb01, yb01, cb02, yb02⟩ := b0.cf3
      go_wp2_with fail
      clear cb00 yb00 cb01 yb01 cb02 yb02
      have hg := only_store3 w3 (w.heap.size) (.bool s1) (.slice A1 n1 c1) (.slice D1 m1 e1)
      have hB := b0.stored3 (.bool s1) (.slice A1 n1 c1) (.slice D1 m1 e1)
      generalize hX : (((w3.setCell ⟨w.heap.size, 0, none⟩ (.bool s1)).setCell ⟨w.heap.size, 1, none⟩ (.slice A1 n1 c1)).setCell ⟨w.heap.size, 2, none⟩ (.slice D1 m1 e1)) = X4 at hg hB ⊢
      clear hX
      replace g1 := g1.kept b0 (by simp [notInt]) hg
      replace b0 := hB
      have hBs := below_only (Below.refl w.heap.size w3) hg (by omega) G0.size
      replace hT := hT.keep hBs hb
      replace G0 := only_below G0 hBs (Nat.le_refl _)
      replace hlt := Nat.lt_of_lt_of_le hlt hg.size
      clear hg hB hBs
      refine bodyPost_ret (ret_numq rfl rfl b0) rfl ?_
      exact ⟨_, s1, A1, n1, c1, D1, m1, e1, rfl, g1, hT, G0⟩
set_option maxRecDepth 100000 in
set_option maxHeartbeats 4000000 in
theorem tpoint_v {b : Nat} (hT : Tape w b) (hb : b < w.heap.size) :
    Calls Tryz.prog 17 #[.pointer (some ⟨b, 0, none⟩)] w fun e w' => ∃ q q', ∃ s2 A2 n2 c2 D2 m2 e2 s3 A3 n3 c3 D3 m3 e3, e = .returned (.agg #[.bool s2, .slice A2 n2 c2, .slice D2 m2 e2, .bool s3, .slice A3 n3 c3, .slice D3 m3 e3]) ∧ PQ w' s2 (.slice A2 n2 c2) (.slice D2 m2 e2) q (2) ∧ PQ w' s3 (.slice A3 n3 c3) (.slice D3 m3 e3) q' (2) ∧ Tape w' b ∧ w.grownBy w' (some b) := by
  go_enter Tryz.func17, Tryz.ntmps17
  go_wp2_with fail
  have G0 : w.grownBy w (some b) := ⟨rfl, rfl, rfl, Nat.le_refl _, fun _ _ _ => rfl⟩
  have hlt := hb
  obtain ⟨W0, hW, b0, hbW, hszW0⟩ := boxes1 w #[.bool false, .slice none 0 0, .slice none 0 0, .bool false, .slice none 0 0, .slice none 0 0] 48
  rw [hW]
  clear hW
  replace hT := hT.keep hbW hlt
  replace hlt := Nat.lt_of_lt_of_le hlt hbW.size
  replace G0 := only_below G0 hbW G0.size
  clear hbW
  refine (tq_v hT hlt).mono ?_
  rintro e w1 ⟨q2, s2, A2, n2, c2, D2, m2, e2, rfl, g2, hT', hg⟩
  replace b0 := b0.other hg (by omega)
  replace hlt := Nat.lt_of_lt_of_le hlt hg.size
  replace G0 := only_trans G0 hg
  clear hT
  have hT := hT'
  clear hT' hg
  go_wp2_with fail
  refine (tq_v hT hlt).mono ?_
  rintro e w2 ⟨q3, s3, A3, n3, c3, D3, m3, e3, rfl, g3, hT', hg⟩
  replace g2 := g2.tape hT hg
  replace b0 := b0.other hg (by omega)
  replace hlt := Nat.lt_of_lt_of_le hlt hg.size
  replace G0 := only_trans G0 hg
  clear hT
  have hT := hT'
  clear hT' hg
  obtain ⟨cb00, yb00, cb01, yb01, cb02, yb02, cb03, yb03, cb04, yb04, cb05, yb05⟩ := b0.cf6
  go_wp2_with fail
  clear cb00 yb00 cb01 yb01 cb02 yb02 cb03 yb03 cb04 yb04 cb05 yb05
  have hg := only_store6 w2 (w.heap.size) (.bool s2) (.slice A2 n2 c2) (.slice D2 m2 e2) (.bool s3) (.slice A3 n3 c3) (.slice D3 m3 e3)
  have hB := b0.stored6 (.bool s2) (.slice A2 n2 c2) (.slice D2 m2 e2) (.bool s3) (.slice A3 n3 c3) (.slice D3 m3 e3)
  generalize hX : ((((((w2.setCell ⟨w.heap.size, 0, none⟩ (.bool s2)).setCell ⟨w.heap.size, 1, none⟩ (.slice A2 n2 c2)).setCell ⟨w.heap.size, 2, none⟩ (.slice D2 m2 e2)).setCell ⟨w.heap.size, 3, none⟩ (.bool s3)).setCell ⟨w.heap.size, 4, none⟩ (.slice A3 n3 c3)).setCell ⟨w.heap.size, 5, none⟩ (.slice D3 m3 e3)) = X3 at hg hB ⊢
  clear hX
  replace g2 := g2.kept b0 (by simp [notInt]) hg
  replace g3 := g3.kept b0 (by simp [notInt]) hg
  replace b0 := hB
  have hBs := below_only (Below.refl w.heap.size w2) hg (by omega) G0.size
  replace hT := hT.keep hBs hb
  replace G0 := only_below G0 hBs (Nat.le_refl _)
  replace hlt := Nat.lt_of_lt_of_le hlt hg.size
  clear hg hB hBs
  refine bodyPost_ret (ret_geop rfl rfl b0) rfl ?_
  exact ⟨_, _, s2, A2, n2, c2, D2, m2, e2, s3, A3, n3, c3, D3, m3, e3, rfl, g2, g3, hT, G0⟩
end
end Go.Proofs.YtancgkmkbgkncaaGreat
