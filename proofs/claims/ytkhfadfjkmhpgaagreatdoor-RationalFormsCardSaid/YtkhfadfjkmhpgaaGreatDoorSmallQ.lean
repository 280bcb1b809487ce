/-
  SmallQ of two rational numbers.
-/
import Derived.Test.YtkhfadfjkmhpgaaGreatDoorBox
import Derived.LoopN
namespace Go.Proofs.YtkhfadfjkmhpgaaGreatDoor
open Go.RowKit

section
variable {A0 A1 D0 D1 : Option Addr} {n0 n1 c0 c1 m0 m1 e0 e1 g : Nat} {s0 s1 : Bool} {w : World} {t : TypeId}
set_option maxRecDepth 100000 in
theorem smallq_yes (hc : Box w g #[.bool s0, .slice A0 n0 c0, .slice D0 m0 e0, .bool s1, .slice A1 n1 c1, .slice D1 m1 e1] t) (kn0 : n0 ≤ 10) (km0 : m0 ≤ 10) (kn1 : n1 ≤ 10) (km1 : m1 ≤ 10) :
    Calls Tryz.prog 9 #[.int .i64 10, .slice (some ⟨g, 0, none⟩) 2 2] w fun e w' => e = .returned (.bool true) ∧ Below w.heap.size w w' := by
  have cc0 := hc.cell 0 _ rfl
  have cc1 := hc.cell 1 _ rfl
  have cc2 := hc.cell 2 _ rfl
  have dn0 : decide ((10 : Int) < (n0 : Int)) = false := decide_eq_false (by omega)
  have dm0 : decide ((10 : Int) < (m0 : Int)) = false := decide_eq_false (by omega)
  have dn1 : decide ((10 : Int) < (n1 : Int)) = false := decide_eq_false (by omega)
  have dm1 : decide ((10 : Int) < (m1 : Int)) = false := decide_eq_false (by omega)
  obtain ⟨W0, hW0, b0, hb0, hs0⟩ := boxes1 w #[.bool s0, .slice A0 n0 c0, .slice D0 m0 e0] 27
  have bb0 := b0.cell 0 _ rfl
  have bb1 := b0.cell 1 _ rfl
  have bb2 := b0.cell 2 _ rfl
  have HC := hc.below hb0
  have cc3 := HC.cell 3 _ rfl
  have cc4 := HC.cell 4 _ rfl
  have cc5 := HC.cell 5 _ rfl
  go_enter Tryz.func9, Tryz.ntmps9
  go_wp2_with fail
  refine wp_loop_rounds 3 ?_
  rw [rounds_succ]
  go_wp2_with fail
  rw [rounds_succ]
  go_wp2_with fail
  rw [rounds_succ]
  go_wp2_with fail
  go_ret
  exact ⟨rfl, hb0.trans ((below_alloc W0 _).mono hb0.size)⟩
set_option maxRecDepth 100000 in
theorem smallq_n0 (hc : Box w g #[.bool s0, .slice A0 n0 c0, .slice D0 m0 e0, .bool s1, .slice A1 n1 c1, .slice D1 m1 e1] t) (kn0 : 10 < n0) :
    Calls Tryz.prog 9 #[.int .i64 10, .slice (some ⟨g, 0, none⟩) 2 2] w fun e w' => e = .returned (.bool false) ∧ Below w.heap.size w w' := by
  have cc0 := hc.cell 0 _ rfl
  have cc1 := hc.cell 1 _ rfl
  have cc2 := hc.cell 2 _ rfl
  have dn0 : decide ((10 : Int) < (n0 : Int)) = true := decide_eq_true (by omega)
  obtain ⟨W0, hW0, b0, hb0, hs0⟩ := boxes1 w #[.bool s0, .slice A0 n0 c0, .slice D0 m0 e0] 27
  have bb0 := b0.cell 0 _ rfl
  have bb1 := b0.cell 1 _ rfl
  have bb2 := b0.cell 2 _ rfl
  go_enter Tryz.func9, Tryz.ntmps9
  go_wp2_with fail
  refine wp_loop_rounds 1 ?_
  rw [rounds_succ]
  go_wp2_with fail
  go_ret
  exact ⟨rfl, hb0⟩
set_option maxRecDepth 100000 in
theorem smallq_m0 (hc : Box w g #[.bool s0, .slice A0 n0 c0, .slice D0 m0 e0, .bool s1, .slice A1 n1 c1, .slice D1 m1 e1] t) (kn0 : n0 ≤ 10) (km0 : 10 < m0) :
    Calls Tryz.prog 9 #[.int .i64 10, .slice (some ⟨g, 0, none⟩) 2 2] w fun e w' => e = .returned (.bool false) ∧ Below w.heap.size w w' := by
  have cc0 := hc.cell 0 _ rfl
  have cc1 := hc.cell 1 _ rfl
  have cc2 := hc.cell 2 _ rfl
  have dn0 : decide ((10 : Int) < (n0 : Int)) = false := decide_eq_false (by omega)
  have dm0 : decide ((10 : Int) < (m0 : Int)) = true := decide_eq_true (by omega)
  obtain ⟨W0, hW0, b0, hb0, hs0⟩ := boxes1 w #[.bool s0, .slice A0 n0 c0, .slice D0 m0 e0] 27
  have bb0 := b0.cell 0 _ rfl
  have bb1 := b0.cell 1 _ rfl
  have bb2 := b0.cell 2 _ rfl
  go_enter Tryz.func9, Tryz.ntmps9
  go_wp2_with fail
  refine wp_loop_rounds 1 ?_
  rw [rounds_succ]
  go_wp2_with fail
  go_ret
  exact ⟨rfl, hb0⟩
set_option maxRecDepth 100000 in
theorem smallq_n1 (hc : Box w g #[.bool s0, .slice A0 n0 c0, .slice D0 m0 e0, .bool s1, .slice A1 n1 c1, .slice D1 m1 e1] t) (kn0 : n0 ≤ 10) (km0 : m0 ≤ 10) (kn1 : 10 < n1) :
    Calls Tryz.prog 9 #[.int .i64 10, .slice (some ⟨g, 0, none⟩) 2 2] w fun e w' => e = .returned (.bool false) ∧ Below w.heap.size w w' := by
  have cc0 := hc.cell 0 _ rfl
  have cc1 := hc.cell 1 _ rfl
  have cc2 := hc.cell 2 _ rfl
  have dn0 : decide ((10 : Int) < (n0 : Int)) = false := decide_eq_false (by omega)
  have dm0 : decide ((10 : Int) < (m0 : Int)) = false := decide_eq_false (by omega)
  have dn1 : decide ((10 : Int) < (n1 : Int)) = true := decide_eq_true (by omega)
  obtain ⟨W0, hW0, b0, hb0, hs0⟩ := boxes1 w #[.bool s0, .slice A0 n0 c0, .slice D0 m0 e0] 27
  have bb0 := b0.cell 0 _ rfl
  have bb1 := b0.cell 1 _ rfl
  have bb2 := b0.cell 2 _ rfl
  have HC := hc.below hb0
  have cc3 := HC.cell 3 _ rfl
  have cc4 := HC.cell 4 _ rfl
  have cc5 := HC.cell 5 _ rfl
  go_enter Tryz.func9, Tryz.ntmps9
  go_wp2_with fail
  refine wp_loop_rounds 2 ?_
  rw [rounds_succ]
  go_wp2_with fail
  rw [rounds_succ]
  go_wp2_with fail
  go_ret
  exact ⟨rfl, hb0.trans ((below_alloc W0 _).mono hb0.size)⟩
set_option maxRecDepth 100000 in
theorem smallq_m1 (hc : Box w g #[.bool s0, .slice A0 n0 c0, .slice D0 m0 e0, .bool s1, .slice A1 n1 c1, .slice D1 m1 e1] t) (kn0 : n0 ≤ 10) (km0 : m0 ≤ 10) (kn1 : n1 ≤ 10) (km1 : 10 < m1) :
    Calls Tryz.prog 9 #[.int .i64 10, .slice (some ⟨g, 0, none⟩) 2 2] w fun e w' => e = .returned (.bool false) ∧ Below w.heap.size w w' := by
  have cc0 := hc.cell 0 _ rfl
  have cc1 := hc.cell 1 _ rfl
  have cc2 := hc.cell 2 _ rfl
  have dn0 : decide ((10 : Int) < (n0 : Int)) = false := decide_eq_false (by omega)
  have dm0 : decide ((10 : Int) < (m0 : Int)) = false := decide_eq_false (by omega)
  have dn1 : decide ((10 : Int) < (n1 : Int)) = false := decide_eq_false (by omega)
  have dm1 : decide ((10 : Int) < (m1 : Int)) = true := decide_eq_true (by omega)
  obtain ⟨W0, hW0, b0, hb0, hs0⟩ := boxes1 w #[.bool s0, .slice A0 n0 c0, .slice D0 m0 e0] 27
  have bb0 := b0.cell 0 _ rfl
  have bb1 := b0.cell 1 _ rfl
  have bb2 := b0.cell 2 _ rfl
  have HC := hc.below hb0
  have cc3 := HC.cell 3 _ rfl
  have cc4 := HC.cell 4 _ rfl
  have cc5 := HC.cell 5 _ rfl
  go_enter Tryz.func9, Tryz.ntmps9
  go_wp2_with fail
  refine wp_loop_rounds 2 ?_
  rw [rounds_succ]
  go_wp2_with fail
  rw [rounds_succ]
  go_wp2_with fail
  go_ret
  exact ⟨rfl, hb0.trans ((below_alloc W0 _).mono hb0.size)⟩
end
end Go.Proofs.YtkhfadfjkmhpgaaGreatDoor
