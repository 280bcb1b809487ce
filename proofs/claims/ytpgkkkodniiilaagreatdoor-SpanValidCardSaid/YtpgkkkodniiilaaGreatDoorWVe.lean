/-
  SmallQ of one and of two (four digits) of rational numbers.
-/
import Derived.Test.YtpgkkkodniiilaaGreatDoorWBox
import Derived.LoopN
namespace Go.Proofs.YtpgkkkodniiilaaGreatDoor
open Go.RowKit

section
variable {A0 A1 D0 D1 : Option Addr} {n0 n1 c0 c1 m0 m1 e0 e1 g : Nat} {s0 s1 : Bool} {w : World} {t : TypeId}
set_option maxRecDepth 100000 in
theorem smallq4_yes (hc : Box w g #[.bool s0, .slice A0 n0 c0, .slice D0 m0 e0, .bool s1, .slice A1 n1 c1, .slice D1 m1 e1] t) (kn0 : n0 ≤ 4) (km0 : m0 ≤ 4) (kn1 : n1 ≤ 4) (km1 : m1 ≤ 4) :
    Calls Tryz.prog 9 #[.int .i64 4, .slice (some ⟨g, 0, none⟩) 2 2] w fun e w' => e = .returned (.bool true) ∧ Below w.heap.size w w' := by
  have cc0 := hc.cell 0 _ rfl
  have cc1 := hc.cell 1 _ rfl
  have cc2 := hc.cell 2 _ rfl
  have dn0 : decide ((4 : Int) < (n0 : Int)) = false := decide_eq_false (by omega)
  have dm0 : decide ((4 : Int) < (m0 : Int)) = false := decide_eq_false (by omega)
  have dn1 : decide ((4 : Int) < (n1 : Int)) = false := decide_eq_false (by omega)
  have dm1 : decide ((4 : Int) < (m1 : Int)) = false := decide_eq_false (by omega)
  obtain ⟨W0, hW0, b0, hb0, hs0⟩ := boxes1 w #[.bool s0, .slice A0 n0 c0, .slice D0 m0 e0] 28
  have bb0 := b0.cell 0 _ rfl
  have bb1 := b0.cell 1 _ rfl
  have bb2 := b0.cell 2 _ rfl
  have HC := hc.below hb0
  have cc3 := HC.cell 3 _ rfl
  have cc4 := HC.cell 4 _ rfl
  have cc5 := HC.cell 5 _ rfl
  go_enter Tryz.func9, Tryz.ntmps9
  go_wp2_with fail
  refine wp_loop_rounds 3 ?_
  rw [rounds_succ]
  go_wp2_with fail
  rw [rounds_succ]
  go_wp2_with fail
  rw [rounds_succ]
  go_wp2_with fail
  go_ret
  exact ⟨rfl, hb0.trans ((below_alloc W0 _).mono hb0.size)⟩
set_option maxRecDepth 100000 in
theorem smallq4_n0 (hc : Box w g #[.bool s0, .slice A0 n0 c0, .slice D0 m0 e0, .bool s1, .slice A1 n1 c1, .slice D1 m1 e1] t) (kn0 : 4 < n0) :
    Calls Tryz.prog 9 #[.int .i64 4, .slice (some ⟨g, 0, none⟩) 2 2] w fun e w' => e = .returned (.bool false) ∧ Below w.heap.size w w' := by
  have cc0 := hc.cell 0 _ rfl
  have cc1 := hc.cell 1 _ rfl
  have cc2 := hc.cell 2 _ rfl
  have dn0 : decide ((4 : Int) < (n0 : Int)) = true := decide_eq_true (by omega)
  obtain ⟨W0, hW0, b0, hb0, hs0⟩ := boxes1 w #[.bool s0, .slice A0 n0 c0, .slice D0 m0 e0] 28
  have bb0 := b0.cell 0 _ rfl
  have bb1 := b0.cell 1 _ rfl
  have bb2 := b0.cell 2 _ rfl
  go_enter Tryz.func9, Tryz.ntmps9
  go_wp2_with fail
  refine wp_loop_rounds 1 ?_
  rw [rounds_succ]
  go_wp2_with fail
  go_ret
  exact ⟨rfl, hb0⟩
set_option maxRecDepth 100000 in
theorem smallq4_m0 (hc : Box w g #[.bool s0, .slice A0 n0 c0, .slice D0 m0 e0, .bool s1, .slice A1 n1 c1, .slice D1 m1 e1] t) (kn0 : n0 ≤ 4) (km0 : 4 < m0) :
    Calls Tryz.prog 9 #[.int .i64 4, .slice (some ⟨g, 0, none⟩) 2 2] w fun e w' => e = .returned (.bool false) ∧ Below w.heap.size w w' := by
  have cc0 := hc.cell 0 _ rfl
  have cc1 := hc.cell 1 _ rfl
  have cc2 := hc.cell 2 _ rfl
  have dn0 : decide ((4 : Int) < (n0 : Int)) = false := decide_eq_false (by omega)
  have dm0 : decide ((4 : Int) < (m0 : Int)) = true := decide_eq_true (by omega)
  obtain ⟨W0, hW0, b0, hb0, hs0⟩ := boxes1 w #[.bool s0, .slice A0 n0 c0, .slice D0 m0 e0] 28
  have bb0 := b0.cell 0 _ rfl
  have bb1 := b0.cell 1 _ rfl
  have bb2 := b0.cell 2 _ rfl
  go_enter Tryz.func9, Tryz.ntmps9
  go_wp2_with fail
  refine wp_loop_rounds 1 ?_
  rw [rounds_succ]
  go_wp2_with fail
  go_ret
  exact ⟨rfl, hb0⟩
set_option maxRecDepth 100000 in
theorem smallq4_n1 (hc : Box w g #[.bool s0, .slice A0 n0 c0, .slice D0 m0 e0, .bool s1, .slice A1 n1 c1, .slice D1 m1 e1] t) (kn0 : n0 ≤ 4) (km0 : m0 ≤ 4) (kn1 : 4 < n1) :
    Calls Tryz.prog 9 #[.int .i64 4, .slice (some ⟨g, 0, none⟩) 2 2] w fun e w' => e = .returned (.bool false) ∧ Below w.heap.size w w' := by
  have cc0 := hc.cell 0 _ rfl
  have cc1 := hc.cell 1 _ rfl
  have cc2 := hc.cell 2 _ rfl
  have dn0 : decide ((4 : Int) < (n0 : Int)) = false := decide_eq_false (by omega)
  have dm0 : decide ((4 : Int) < (m0 : Int)) = false := decide_eq_false (by omega)
  have dn1 : decide ((4 : Int) < (n1 : Int)) = true := decide_eq_true (by omega)
  obtain ⟨W0, hW0, b0, hb0, hs0⟩ := boxes1 w #[.bool s0, .slice A0 n0 c0, .slice D0 m0 e0] 28
  have bb0 := b0.cell 0 _ rfl
  have bb1 := b0.cell 1 _ rfl
  have bb2 := b0.cell 2 _ rfl
  have HC := hc.below hb0
  have cc3 := HC.cell 3 _ rfl
  have cc4 := HC.cell 4 _ rfl
  have cc5 := HC.cell 5 _ rfl
  go_enter Tryz.func9, Tryz.ntmps9
  go_wp2_with fail
  refine wp_loop_rounds 2 ?_
  rw [rounds_succ]
  go_wp2_with fail
  rw [rounds_succ]
  go_wp2_with fail
  go_ret
  exact ⟨rfl, hb0.trans ((below_alloc W0 _).mono hb0.size)⟩
set_option maxRecDepth 100000 in
theorem smallq4_m1 (hc : Box w g #[.bool s0, .slice A0 n0 c0, .slice D0 m0 e0, .bool s1, .slice A1 n1 c1, .slice D1 m1 e1] t) (kn0 : n0 ≤ 4) (km0 : m0 ≤ 4) (kn1 : n1 ≤ 4) (km1 : 4 < m1) :
    Calls Tryz.prog 9 #[.int .i64 4, .slice (some ⟨g, 0, none⟩) 2 2] w fun e w' => e = .returned (.bool false) ∧ Below w.heap.size w w' := by
  have cc0 := hc.cell 0 _ rfl
  have cc1 := hc.cell 1 _ rfl
  have cc2 := hc.cell 2 _ rfl
  have dn0 : decide ((4 : Int) < (n0 : Int)) = false := decide_eq_false (by omega)
  have dm0 : decide ((4 : Int) < (m0 : Int)) = false := decide_eq_false (by omega)
  have dn1 : decide ((4 : Int) < (n1 : Int)) = false := decide_eq_false (by omega)
  have dm1 : decide ((4 : Int) < (m1 : Int)) = true := decide_eq_true (by omega)
  obtain ⟨W0, hW0, b0, hb0, hs0⟩ := boxes1 w #[.bool s0, .slice A0 n0 c0, .slice D0 m0 e0] 28
  have bb0 := b0.cell 0 _ rfl
  have bb1 := b0.cell 1 _ rfl
  have bb2 := b0.cell 2 _ rfl
  have HC := hc.below hb0
  have cc3 := HC.cell 3 _ rfl
  have cc4 := HC.cell 4 _ rfl
  have cc5 := HC.cell 5 _ rfl
  go_enter Tryz.func9, Tryz.ntmps9
  go_wp2_with fail
  refine wp_loop_rounds 2 ?_
  rw [rounds_succ]
  go_wp2_with fail
  rw [rounds_succ]
  go_wp2_with fail
  go_ret
  exact ⟨rfl, hb0.trans ((below_alloc W0 _).mono hb0.size)⟩
/-- Few digits. -/
def few4 (n0 m0 n1 m1 : Nat) : Prop := n0 ≤ 4 ∧ m0 ≤ 4 ∧ n1 ≤ 4 ∧ m1 ≤ 4
theorem smallq4_t (hc : Box w g #[.bool s0, .slice A0 n0 c0, .slice D0 m0 e0, .bool s1, .slice A1 n1 c1, .slice D1 m1 e1] t) (h : few4 n0 m0 n1 m1) :
    Calls Tryz.prog 9 #[.int .i64 4, .slice (some ⟨g, 0, none⟩) 2 2] w fun e w' => e = .returned (.bool true) ∧ Below w.heap.size w w' := smallq4_yes hc h.1 h.2.1 h.2.2.1 h.2.2.2
theorem smallq4_f (hc : Box w g #[.bool s0, .slice A0 n0 c0, .slice D0 m0 e0, .bool s1, .slice A1 n1 c1, .slice D1 m1 e1] t) (h : ¬ few4 n0 m0 n1 m1) :
    Calls Tryz.prog 9 #[.int .i64 4, .slice (some ⟨g, 0, none⟩) 2 2] w fun e w' => e = .returned (.bool false) ∧ Below w.heap.size w w' := by
  unfold few4 at h
  rcases Nat.lt_or_ge 4 n0 with h0 | h0
  · exact smallq4_n0 hc h0
  · rcases Nat.lt_or_ge 4 m0 with h1 | h1
    · exact smallq4_m0 hc h0 h1
    · rcases Nat.lt_or_ge 4 n1 with h2 | h2
      · exact smallq4_n1 hc h0 h1 h2
      · exact smallq4_m1 hc h0 h1 h2 (by omega)
set_option maxRecDepth 100000 in
theorem smallq4_one {b : Bool} (hc : Box w g #[.bool s0, .slice A0 n0 c0, .slice D0 m0 e0] t) (hb9 : decide (n0 ≤ 4 ∧ m0 ≤ 4) = b) :
    Calls Tryz.prog 9 #[.int .i64 4, .slice (some ⟨g, 0, none⟩) 1 1] w fun e w' => e = .returned (.bool b) ∧ Below w.heap.size w w' := by
  have cc0 := hc.cell 0 _ rfl
  have cc1 := hc.cell 1 _ rfl
  have cc2 := hc.cell 2 _ rfl
  obtain ⟨W0, hW0, b0, hb0, hs0⟩ := boxes1 w #[.bool s0, .slice A0 n0 c0, .slice D0 m0 e0] 28
  have bb0 := b0.cell 0 _ rfl
  have bb1 := b0.cell 1 _ rfl
  have bb2 := b0.cell 2 _ rfl
  by_cases kn0 : n0 ≤ 4
  · by_cases km0 : m0 ≤ 4
    · obtain rfl : b = true := by rw [← hb9]; exact decide_eq_true ⟨kn0, km0⟩
      clear hb9
      have dn0 : decide ((4 : Int) < (n0 : Int)) = false := decide_eq_false (by omega)
      have dm0 : decide ((4 : Int) < (m0 : Int)) = false := decide_eq_false (by omega)
      go_enter Tryz.func9, Tryz.ntmps9
      go_wp2_with fail
      refine wp_loop_rounds 2 ?_
      rw [rounds_succ]
      go_wp2_with fail
      rw [rounds_succ]
      go_wp2_with fail
      go_ret
      exact ⟨rfl, hb0⟩
    · obtain rfl : b = false := by rw [← hb9]; exact decide_eq_false (fun h => km0 h.2)
      clear hb9
      have dn0 : decide ((4 : Int) < (n0 : Int)) = false := decide_eq_false (by omega)
      have dm0 : decide ((4 : Int) < (m0 : Int)) = true := decide_eq_true (by omega)
      go_enter Tryz.func9, Tryz.ntmps9
      go_wp2_with fail
      refine wp_loop_rounds 1 ?_
      rw [rounds_succ]
      go_wp2_with fail
      go_ret
      exact ⟨rfl, hb0⟩
  · obtain rfl : b = false := by rw [← hb9]; exact decide_eq_false (fun h => kn0 h.1)
    clear hb9
    have dn0 : decide ((4 : Int) < (n0 : Int)) = true := decide_eq_true (by omega)
    go_enter Tryz.func9, Tryz.ntmps9
    go_wp2_with fail
    refine wp_loop_rounds 1 ?_
    rw [rounds_succ]
    go_wp2_with fail
    go_ret
    exact ⟨rfl, hb0⟩
end
end Go.Proofs.YtpgkkkodniiilaaGreatDoor
