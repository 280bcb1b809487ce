/-
  The contracts of package rational: quotients, the middle, rounding.
-/
import Derived.Test.YtancgkmkbgkncaaGreatUSq
import Derived.Test.YtancgkmkbgkncaaGreatUBox
import Derived.Test.YtancgkmkbgkncaaGreatUDivLong
import Derived.Test.YtancgkmkbgkncaaGreatUK1
import Derived.Test.YtancgkmkbgkncaaGreatUK2
import Derived.Test.YtancgkmkbgkncaaGreatUK3
import Derived.Test.YtancgkmkbgkncaaGreatUK4
import Derived.Test.YtancgkmkbgkncaaGreatUK5
import Derived.Test.YtancgkmkbgkncaaGreatUK6
import Derived.Test.YtancgkmkbgkncaaGreatUK7
import Derived.Test.YtancgkmkbgkncaaGreatUK8
import Derived.Test.YtancgkmkbgkncaaGreatUK9
import Derived.Test.YtancgkmkbgkncaaGreatUOrd
import Derived.Test.YtancgkmkbgkncaaGreatUR1
import Derived.Test.YtancgkmkbgkncaaGreatURatA
import Derived.Test.YtancgkmkbgkncaaGreatURatC
import Derived.Test.YtancgkmkbgkncaaGreatUS1
import Derived.Test.YtancgkmkbgkncaaGreatUShelf
namespace Go.Proofs.YtancgkmkbgkncaaGreat
open Go.RowKit

section
variable {A0 A1 A3 D3 : Option Addr} {n0 n1 n3 c0 c1 c3 m3 e3 : Nat} {s0 s1 s3 : Bool} {z z' z0 z1 z2 : Int} {q q' q0 q1 q2 : Rat} {L L0 L1 L2 x x0 x1 y : Nat} {k : Int} {w : World}
theorem sg_bne (a b : Bool) (x y : Nat) : mkRat (sg (a != b) x) y = Rat.divInt (sg a x) (sg b y) := by
  cases b
  · rw [sg_false]
    have h : Rat.divInt (sg a x) ((y : Nat) : Int) = mkRat (sg a x) y := Rat.divInt_ofNat _ _
    rw [h]; cases a <;> rfl
  · rw [sg_true, Rat.divInt_neg', Rat.divInt_ofNat]
    cases a
    · rw [show (false != true) = true from rfl, sg_true, sg_false]
    · rw [show (true != true) = false from rfl, sg_true, sg_false, Int.neg_neg]
set_option maxRecDepth 100000 in
theorem rnew_v (h : RI w s0 (.slice A0 n0 c0) z L) (h' : RI w s1 (.slice A1 n1 c1) z' L) (h0 : z' ≠ 0) (hL : L ≤ 1000000) :
    Calls Tryz.prog 127 #[.agg #[.bool s0, .slice A0 n0 c0], .agg #[.bool s1, .slice A1 n1 c1]] w fun e w' => ∃ s3 A3 n3 c3 D3 m3 e3, e = .returned (.tuple #[.agg #[.bool s3, .slice A3 n3 c3, .slice D3 m3 e3], .bool true]) ∧ NQ w' s3 (.slice A3 n3 c3) (.slice D3 m3 e3) (Rat.divInt z z') L ∧ Below w.heap.size w w' := by
  have HE : Hid (Rat.divInt z z' = mkRat (sg (s0 != s1) z.natAbs) z'.natAbs) := Lib.hid (by rw [sg_bne, ← h.sg, ← h'.sg])
  have hv := h'.rv
  have HN : Hid (z'.natAbs ≠ 0) := Lib.hid (by omega)
  have HD := Lib.hid (decide_eq_false HN.out)
  clear h' h0
  go_enter Tryz.func127, Tryz.ntmps127
  go_wp2_with fail
  obtain ⟨W0, hW, b0, b1, b2, hbW, hszW0⟩ := boxes3 w #[.bool s0, .slice A0 n0 c0] #[.bool s1, .slice A1 n1 c1] #[.bool false, .slice none 0 0, .slice none 0 0] 25 25 52
  rw [hW]
  clear hW
  replace h := h.below hbW
  replace hv := hv.below hbW
  have H0 := hbW
  clear hbW
  obtain ⟨cb00, cb01⟩ := b0.cells2
  obtain ⟨cb10, cb11⟩ := b1.cells2
  go_wp2_with fail
  clear cb00 cb01 cb10 cb11
  refine (riszero_v hv (b := false) HD.out).mono ?_
  rintro e w1 ⟨rfl, hb⟩
  replace h := h.below hb
  replace hv := hv.below hb
  replace b0 := b0.below hb
  replace b1 := b1.below hb
  replace b2 := b2.below hb
  replace H0 := H0.trans (hb.mono H0.size)
  clear hb
  obtain ⟨cb00, cb01⟩ := b0.cells2
  obtain ⟨cb10, cb11⟩ := b1.cells2
  go_wp2_with fail
  clear cb00 cb01 cb10 cb11
  refine (rlowest_v (s0 := (s0 != s1)) ⟨_, h.rv, rfl⟩ hv HN.out hL).mono ?_
  rintro e w2 ⟨s3, A3, n3, c3, D3, m3, e3, rfl, fq, hb⟩
  replace h := h.below hb
  replace hv := hv.below hb
  replace b0 := b0.below hb
  replace b1 := b1.below hb
  replace b2 := b2.below hb
  replace H0 := H0.trans (hb.mono H0.size)
  clear hb
  obtain ⟨cb20, yb20, cb21, yb21, cb22, yb22⟩ := b2.cf3
  go_wp2_with fail
  clear cb20 yb20 cb21 yb21 cb22 yb22
  have hg := only_store3 w2 (w.heap.size + 1 + 1) (.bool s3) (.slice A3 n3 c3) (.slice D3 m3 e3)
  have hB := b2.stored3 (.bool s3) (.slice A3 n3 c3) (.slice D3 m3 e3)
  generalize hX : (((w2.setCell ⟨w.heap.size + 1 + 1, 0, none⟩ (.bool s3)).setCell ⟨w.heap.size + 1 + 1, 1, none⟩ (.slice A3 n3 c3)).setCell ⟨w.heap.size + 1 + 1, 2, none⟩ (.slice D3 m3 e3)) = X3 at hg hB ⊢
  clear hX
  replace h := h.kept b2 (by simp [notInt]) hg
  replace hv := hv.kept b2 (by simp [notInt]) hg
  replace fq := fq.kept b2 (by simp [notInt]) hg
  replace b0 := b0.other hg (by omega)
  replace b1 := b1.other hg (by omega)
  replace b2 := hB
  replace H0 := below_only H0 hg (by omega) H0.size
  clear hg hB
  refine bodyPost_ret (ret_rat_b rfl rfl b2) rfl ?_
  exact ⟨s3, A3, n3, c3, D3, m3, e3, rfl, by rw [HE.out]; exact fq, H0⟩
end
end Go.Proofs.YtancgkmkbgkncaaGreat
