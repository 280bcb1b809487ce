/-
  The contracts of package rational.
-/
import Derived.Test.YtancgkmkbgkncaaGreatUSq
import Derived.Test.YtancgkmkbgkncaaGreatUBox
import Derived.Test.YtancgkmkbgkncaaGreatUDivLong
import Derived.Test.YtancgkmkbgkncaaGreatUK1
import Derived.Test.YtancgkmkbgkncaaGreatUK2
import Derived.Test.YtancgkmkbgkncaaGreatUK3
import Derived.Test.YtancgkmkbgkncaaGreatUK4
import Derived.Test.YtancgkmkbgkncaaGreatUK5
import Derived.Test.YtancgkmkbgkncaaGreatUK6
import Derived.Test.YtancgkmkbgkncaaGreatUK7
import Derived.Test.YtancgkmkbgkncaaGreatUK8
import Derived.Test.YtancgkmkbgkncaaGreatUK9
import Derived.Test.YtancgkmkbgkncaaGreatUOrd
import Derived.Test.YtancgkmkbgkncaaGreatUR1
import Derived.Test.YtancgkmkbgkncaaGreatURatA
import Derived.Test.YtancgkmkbgkncaaGreatUS1
import Derived.Test.YtancgkmkbgkncaaGreatUShelf
namespace Go.Proofs.YtancgkmkbgkncaaGreat
open Go.RowKit

section
variable {A0 D0 : Option Addr} {n0 c0 m0 e0 : Nat} {s0 : Bool} {z z0 z1 z2 : Int} {q q' q0 q1 q2 : Rat} {L L0 L1 L2 x x0 x1 y : Nat} {k : Int} {w : World}
set_option maxRecDepth 100000 in
theorem rsign_v (h : RQ w s0 (.slice A0 n0 c0) (.slice D0 m0 e0) q L) (hk : rsg q = k) :
    Calls Tryz.prog 153 #[.agg #[.bool s0, .slice A0 n0 c0, .slice D0 m0 e0]] w fun e w' => e = .returned (.int .i64 k) ∧ Below w.heap.size w w' := by
  obtain ⟨z, d, h1, h2, rfl⟩ := h
  rcases Decidable.em (d = 0) with h0 | h0
  · subst h0
    rw [Rat.mkRat_zero, rsg_zero] at hk
    subst hk
    go_enter Tryz.func153, Tryz.ntmps153
    go_wp2_with fail
    obtain ⟨W0, hW, b0, hbW, hszW0⟩ := boxes1 w #[.bool s0, .slice A0 n0 c0, .slice D0 m0 e0] 52
    rw [hW]
    clear hW
    replace h1 := h1.below hbW
    replace h2 := h2.below hbW
    have H0 := hbW
    clear hbW
    obtain ⟨cb00, cb01, cb02⟩ := b0.cells3
    go_wp2_with fail
    clear cb00 cb01 cb02
    refine (riszero_v h2 (b := true) (by simp)).mono ?_
    rintro e w1 ⟨rfl, hb⟩
    replace h1 := h1.below hb
    replace h2 := h2.below hb
    replace b0 := b0.below hb
    replace H0 := H0.trans (hb.mono H0.size)
    clear hb
    go_wp2_with fail
    go_returns
    exact ⟨rfl, H0⟩
  · have HD := Lib.hid (decide_eq_false h0)
    rw [rsg_mk h0] at hk
    have HK := Lib.hid hk
    clear h0 hk
    go_enter Tryz.func153, Tryz.ntmps153
    go_wp2_with fail
    obtain ⟨W0, hW, b0, hbW, hszW0⟩ := boxes1 w #[.bool s0, .slice A0 n0 c0, .slice D0 m0 e0] 52
    rw [hW]
    clear hW
    replace h1 := h1.below hbW
    replace h2 := h2.below hbW
    have H0 := hbW
    clear hbW
    obtain ⟨cb00, cb01, cb02⟩ := b0.cells3
    go_wp2_with fail
    clear cb00 cb01 cb02
    refine (riszero_v h2 (b := false) HD.out).mono ?_
    rintro e w1 ⟨rfl, hb⟩
    replace h1 := h1.below hb
    replace h2 := h2.below hb
    replace b0 := b0.below hb
    replace H0 := H0.trans (hb.mono H0.size)
    clear hb
    obtain ⟨cb00, cb01, cb02⟩ := b0.cells3
    go_wp2_with fail
    clear cb00 cb01 cb02
    refine (isign_is h1 HK.out).mono ?_
    rintro e w2 ⟨rfl, hb⟩
    replace h1 := h1.below hb
    replace h2 := h2.below hb
    replace b0 := b0.below hb
    replace H0 := H0.trans (hb.mono H0.size)
    clear hb
    go_wp2_with fail
    go_returns
    exact ⟨rfl, H0⟩
end
end Go.Proofs.YtancgkmkbgkncaaGreat
