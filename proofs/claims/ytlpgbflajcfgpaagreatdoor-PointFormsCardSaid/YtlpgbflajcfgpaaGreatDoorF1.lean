/-
  SmallQ6, PtF in one text.
-/
import Derived.Test.YtlpgbflajcfgpaaGreatDoorB1
import Derived.LoopN
import Derived.Test.YtlpgbflajcfgpaaGreatDoorE1
import Derived.Test.YtlpgbflajcfgpaaGreatDoorE2
import Derived.Test.YtlpgbflajcfgpaaGreatDoorE3
import Derived.Test.YtlpgbflajcfgpaaGreatDoorE4
import Derived.Test.YtlpgbflajcfgpaaGreatDoorEY
import Derived.Test.YtlpgbflajcfgpaaGreatDoorEZ
import Derived.Test.YtlpgbflajcfgpaaGreatDoorPtG
namespace Go.Proofs.YtlpgbflajcfgpaaGreatDoor
open Go.RowKit

section
variable {A0 A1 D0 D1 : Option Addr} {n0 n1 c0 c1 m0 m1 e0 e1 g : Nat} {s0 s1 : Bool} {w : World} {t : TypeId}
set_option maxRecDepth 100000 in
theorem smallq6_yes (hc : Box w g #[.bool s0, .slice A0 n0 c0, .slice D0 m0 e0, .bool s1, .slice A1 n1 c1, .slice D1 m1 e1] t) (kn0 : n0 ≤ 6) (km0 : m0 ≤ 6) (kn1 : n1 ≤ 6) (km1 : m1 ≤ 6) :
    Calls Tryz.prog 58 #[.int .i64 6, .slice (some ⟨g, 0, none⟩) 2 2] w fun e w' => e = .returned (.bool true) ∧ Below w.heap.size w w' := by
  have cc0 := hc.cell 0 _ rfl
  have cc1 := hc.cell 1 _ rfl
  have cc2 := hc.cell 2 _ rfl
  have dn0 : decide ((6 : Int) < (n0 : Int)) = false := decide_eq_false (by omega)
  have dm0 : decide ((6 : Int) < (m0 : Int)) = false := decide_eq_false (by omega)
  have dn1 : decide ((6 : Int) < (n1 : Int)) = false := decide_eq_false (by omega)
  have dm1 : decide ((6 : Int) < (m1 : Int)) = false := decide_eq_false (by omega)
  obtain ⟨W0, hW0, b0, hb0, hs0⟩ := boxes1 w #[.bool s0, .slice A0 n0 c0, .slice D0 m0 e0] 27
  have bb0 := b0.cell 0 _ rfl
  have bb1 := b0.cell 1 _ rfl
  have bb2 := b0.cell 2 _ rfl
  have HC := hc.below hb0
  have cc3 := HC.cell 3 _ rfl
  have cc4 := HC.cell 4 _ rfl
  have cc5 := HC.cell 5 _ rfl
  go_enter Tryz.func58, Tryz.ntmps58
  go_wp2_with fail
  refine wp_loop_rounds 3 ?_
  rw [rounds_succ]
  go_wp2_with fail
  rw [rounds_succ]
  go_wp2_with fail
  rw [rounds_succ]
  go_wp2_with fail
  go_ret
  exact ⟨rfl, hb0.trans ((below_alloc W0 _).mono hb0.size)⟩
set_option maxRecDepth 100000 in
theorem smallq6_n0 (hc : Box w g #[.bool s0, .slice A0 n0 c0, .slice D0 m0 e0, .bool s1, .slice A1 n1 c1, .slice D1 m1 e1] t) (kn0 : 6 < n0) :
    Calls Tryz.prog 58 #[.int .i64 6, .slice (some ⟨g, 0, none⟩) 2 2] w fun e w' => e = .returned (.bool false) ∧ Below w.heap.size w w' := by
  have cc0 := hc.cell 0 _ rfl
  have cc1 := hc.cell 1 _ rfl
  have cc2 := hc.cell 2 _ rfl
  have dn0 : decide ((6 : Int) < (n0 : Int)) = true := decide_eq_true (by omega)
  obtain ⟨W0, hW0, b0, hb0, hs0⟩ := boxes1 w #[.bool s0, .slice A0 n0 c0, .slice D0 m0 e0] 27
  have bb0 := b0.cell 0 _ rfl
  have bb1 := b0.cell 1 _ rfl
  have bb2 := b0.cell 2 _ rfl
  go_enter Tryz.func58, Tryz.ntmps58
  go_wp2_with fail
  refine wp_loop_rounds 1 ?_
  rw [rounds_succ]
  go_wp2_with fail
  go_ret
  exact ⟨rfl, hb0⟩
set_option maxRecDepth 100000 in
theorem smallq6_m0 (hc : Box w g #[.bool s0, .slice A0 n0 c0, .slice D0 m0 e0, .bool s1, .slice A1 n1 c1, .slice D1 m1 e1] t) (kn0 : n0 ≤ 6) (km0 : 6 < m0) :
    Calls Tryz.prog 58 #[.int .i64 6, .slice (some ⟨g, 0, none⟩) 2 2] w fun e w' => e = .returned (.bool false) ∧ Below w.heap.size w w' := by
  have cc0 := hc.cell 0 _ rfl
  have cc1 := hc.cell 1 _ rfl
  have cc2 := hc.cell 2 _ rfl
  have dn0 : decide ((6 : Int) < (n0 : Int)) = false := decide_eq_false (by omega)
  have dm0 : decide ((6 : Int) < (m0 : Int)) = true := decide_eq_true (by omega)
  obtain ⟨W0, hW0, b0, hb0, hs0⟩ := boxes1 w #[.bool s0, .slice A0 n0 c0, .slice D0 m0 e0] 27
  have bb0 := b0.cell 0 _ rfl
  have bb1 := b0.cell 1 _ rfl
  have bb2 := b0.cell 2 _ rfl
  go_enter Tryz.func58, Tryz.ntmps58
  go_wp2_with fail
  refine wp_loop_rounds 1 ?_
  rw [rounds_succ]
  go_wp2_with fail
  go_ret
  exact ⟨rfl, hb0⟩
set_option maxRecDepth 100000 in
theorem smallq6_n1 (hc : Box w g #[.bool s0, .slice A0 n0 c0, .slice D0 m0 e0, .bool s1, .slice A1 n1 c1, .slice D1 m1 e1] t) (kn0 : n0 ≤ 6) (km0 : m0 ≤ 6) (kn1 : 6 < n1) :
    Calls Tryz.prog 58 #[.int .i64 6, .slice (some ⟨g, 0, none⟩) 2 2] w fun e w' => e = .returned (.bool false) ∧ Below w.heap.size w w' := by
  have cc0 := hc.cell 0 _ rfl
  have cc1 := hc.cell 1 _ rfl
  have cc2 := hc.cell 2 _ rfl
  have dn0 : decide ((6 : Int) < (n0 : Int)) = false := decide_eq_false (by omega)
  have dm0 : decide ((6 : Int) < (m0 : Int)) = false := decide_eq_false (by omega)
  have dn1 : decide ((6 : Int) < (n1 : Int)) = true := decide_eq_true (by omega)
  obtain ⟨W0, hW0, b0, hb0, hs0⟩ := boxes1 w #[.bool s0, .slice A0 n0 c0, .slice D0 m0 e0] 27
  have bb0 := b0.cell 0 _ rfl
  have bb1 := b0.cell 1 _ rfl
  have bb2 := b0.cell 2 _ rfl
  have HC := hc.below hb0
  have cc3 := HC.cell 3 _ rfl
  have cc4 := HC.cell 4 _ rfl
  have cc5 := HC.cell 5 _ rfl
  go_enter Tryz.func58, Tryz.ntmps58
  go_wp2_with fail
  refine wp_loop_rounds 2 ?_
  rw [rounds_succ]
  go_wp2_with fail
  rw [rounds_succ]
  go_wp2_with fail
  go_ret
  exact ⟨rfl, hb0.trans ((below_alloc W0 _).mono hb0.size)⟩
set_option maxRecDepth 100000 in
theorem smallq6_m1 (hc : Box w g #[.bool s0, .slice A0 n0 c0, .slice D0 m0 e0, .bool s1, .slice A1 n1 c1, .slice D1 m1 e1] t) (kn0 : n0 ≤ 6) (km0 : m0 ≤ 6) (kn1 : n1 ≤ 6) (km1 : 6 < m1) :
    Calls Tryz.prog 58 #[.int .i64 6, .slice (some ⟨g, 0, none⟩) 2 2] w fun e w' => e = .returned (.bool false) ∧ Below w.heap.size w w' := by
  have cc0 := hc.cell 0 _ rfl
  have cc1 := hc.cell 1 _ rfl
  have cc2 := hc.cell 2 _ rfl
  have dn0 : decide ((6 : Int) < (n0 : Int)) = false := decide_eq_false (by omega)
  have dm0 : decide ((6 : Int) < (m0 : Int)) = false := decide_eq_false (by omega)
  have dn1 : decide ((6 : Int) < (n1 : Int)) = false := decide_eq_false (by omega)
  have dm1 : decide ((6 : Int) < (m1 : Int)) = true := decide_eq_true (by omega)
  obtain ⟨W0, hW0, b0, hb0, hs0⟩ := boxes1 w #[.bool s0, .slice A0 n0 c0, .slice D0 m0 e0] 27
  have bb0 := b0.cell 0 _ rfl
  have bb1 := b0.cell 1 _ rfl
  have bb2 := b0.cell 2 _ rfl
  have HC := hc.below hb0
  have cc3 := HC.cell 3 _ rfl
  have cc4 := HC.cell 4 _ rfl
  have cc5 := HC.cell 5 _ rfl
  go_enter Tryz.func58, Tryz.ntmps58
  go_wp2_with fail
  refine wp_loop_rounds 2 ?_
  rw [rounds_succ]
  go_wp2_with fail
  rw [rounds_succ]
  go_wp2_with fail
  go_ret
  exact ⟨rfl, hb0.trans ((below_alloc W0 _).mono hb0.size)⟩
/-- Few digits. -/
def few (n0 m0 n1 m1 : Nat) : Prop := n0 ≤ 6 ∧ m0 ≤ 6 ∧ n1 ≤ 6 ∧ m1 ≤ 6
theorem smallq6_t (hc : Box w g #[.bool s0, .slice A0 n0 c0, .slice D0 m0 e0, .bool s1, .slice A1 n1 c1, .slice D1 m1 e1] t) (h : few n0 m0 n1 m1) :
    Calls Tryz.prog 58 #[.int .i64 6, .slice (some ⟨g, 0, none⟩) 2 2] w fun e w' => e = .returned (.bool true) ∧ Below w.heap.size w w' := smallq6_yes hc h.1 h.2.1 h.2.2.1 h.2.2.2
theorem smallq6_f (hc : Box w g #[.bool s0, .slice A0 n0 c0, .slice D0 m0 e0, .bool s1, .slice A1 n1 c1, .slice D1 m1 e1] t) (h : ¬ few n0 m0 n1 m1) :
    Calls Tryz.prog 58 #[.int .i64 6, .slice (some ⟨g, 0, none⟩) 2 2] w fun e w' => e = .returned (.bool false) ∧ Below w.heap.size w w' := by
  unfold few at h
  rcases Nat.lt_or_ge 6 n0 with h0 | h0
  · exact smallq6_n0 hc h0
  · rcases Nat.lt_or_ge 6 m0 with h1 | h1
    · exact smallq6_m0 hc h0 h1
    · rcases Nat.lt_or_ge 6 n1 with h2 | h2
      · exact smallq6_n1 hc h0 h1 h2
      · exact smallq6_m1 hc h0 h1 h2 (by omega)
end
end Go.Proofs.YtlpgbflajcfgpaaGreatDoor
namespace Go.Proofs.YtlpgbflajcfgpaaGreatDoor
open Go.RowKit

section
variable {A0 A1 A2 A3 A4 A5 A6 A7 D0 D1 D2 D3 D4 D5 D6 D7 : Option Addr} {n0 n1 n2 n3 n4 n5 n6 n7 c0 c1 c2 c3 c4 c5 c6 c7 m0 m1 m2 m3 m4 m5 m6 m7 e0 e1 e2 e3 e4 e5 e6 e7 : Nat} {s0 s1 s2 s3 s4 s5 s6 s7 : Bool} {q0 q1 q2 q3 q4 q5 q6 q7 : Rat} {z z' z0 z1 : Int} {L L0 L1 x x0 x1 y : Nat} {k : Int} {b : Bool} {w : World}
set_option maxRecDepth 100000 in
set_option maxHeartbeats 4000000 in
theorem smallp_yes {g : Nat} {t : TypeId} (hc : Box w g #[.bool s0, .slice A0 n0 c0, .slice D0 m0 e0, .bool s1, .slice A1 n1 c1, .slice D1 m1 e1, .bool s2, .slice A2 n2 c2, .slice D2 m2 e2, .bool s3, .slice A3 n3 c3, .slice D3 m3 e3] t) (h : few n0 m0 n1 m1) (h' : few n2 m2 n3 m3) :
    Calls Tryz.prog 9 #[.int .i64 6, .slice (some ⟨g, 0, none⟩) 2 2] w fun e w' => e = .returned (.bool true) ∧ Below w.heap.size w w' := by
  have cc0_0 := hc.cell 0 _ rfl
  have cc0_1 := hc.cell 1 _ rfl
  have cc0_2 := hc.cell 2 _ rfl
  have cc0_3 := hc.cell 3 _ rfl
  have cc0_4 := hc.cell 4 _ rfl
  have cc0_5 := hc.cell 5 _ rfl
  obtain ⟨V0, hV0, v0, hv0, hs0⟩ := boxes1 w #[.bool s0, .slice A0 n0 c0, .slice D0 m0 e0, .bool s1, .slice A1 n1 c1, .slice D1 m1 e1] 29
  have kk0_0 := v0.cell 0 _ rfl
  have kk0_1 := v0.cell 1 _ rfl
  have kk0_2 := v0.cell 2 _ rfl
  have kk0_3 := v0.cell 3 _ rfl
  have kk0_4 := v0.cell 4 _ rfl
  have kk0_5 := v0.cell 5 _ rfl
  obtain ⟨U0, hU0, u0, hu0, ht0⟩ := boxes1 V0 #[.bool s0, .slice A0 n0 c0, .slice D0 m0 e0, .bool s1, .slice A1 n1 c1, .slice D1 m1 e1] 27
  clear hs0 ht0
  go_enter Tryz.func9, Tryz.ntmps9
  go_wp2_with fail
  refine wp_loop_rounds 3 ?_
  rw [rounds_succ]
  go_wp2_with fail
  refine (smallq6_t u0 h).mono ?_
  rintro e w1 ⟨rfl, hb1⟩
  have H1 := (hv0.trans (hu0.mono hv0.size)).trans (hb1.mono (Nat.le_trans hv0.size hu0.size))
  have hc1 := ((hc.below hv0).below hu0).below hb1
  clear cc0_0 kk0_0 cc0_1 kk0_1 cc0_2 kk0_2 cc0_3 kk0_3 cc0_4 kk0_4 cc0_5 kk0_5 hV0 hU0 u0 v0
  have cc1_0 := hc1.cell 6 _ rfl
  have cc1_1 := hc1.cell 7 _ rfl
  have cc1_2 := hc1.cell 8 _ rfl
  have cc1_3 := hc1.cell 9 _ rfl
  have cc1_4 := hc1.cell 10 _ rfl
  have cc1_5 := hc1.cell 11 _ rfl
  obtain ⟨V1, hV1, v1, hv1, hs1⟩ := boxes1 w1 #[.bool s2, .slice A2 n2 c2, .slice D2 m2 e2, .bool s3, .slice A3 n3 c3, .slice D3 m3 e3] 29
  have kk1_0 := v1.cell 0 _ rfl
  have kk1_1 := v1.cell 1 _ rfl
  have kk1_2 := v1.cell 2 _ rfl
  have kk1_3 := v1.cell 3 _ rfl
  have kk1_4 := v1.cell 4 _ rfl
  have kk1_5 := v1.cell 5 _ rfl
  obtain ⟨U1, hU1, u1, hu1, ht1⟩ := boxes1 V1 #[.bool s2, .slice A2 n2 c2, .slice D2 m2 e2, .bool s3, .slice A3 n3 c3, .slice D3 m3 e3] 27
  clear hs1 ht1
  go_wp2_with fail
  rw [rounds_succ]
  go_wp2_with fail
  refine (smallq6_t u1 h').mono ?_
  rintro e w2 ⟨rfl, hb2⟩
  have H2 := H1.trans (((hv1.trans (hu1.mono hv1.size)).trans (hb2.mono (Nat.le_trans hv1.size hu1.size))).mono H1.size)
  clear cc1_0 kk1_0 cc1_1 kk1_1 cc1_2 kk1_2 cc1_3 kk1_3 cc1_4 kk1_4 cc1_5 kk1_5 hV1 hU1 u1 v1
  go_wp2_with fail
  rw [rounds_succ]
  go_wp2_with fail
  go_returns
  exact ⟨rfl, H2⟩
set_option maxRecDepth 100000 in
set_option maxHeartbeats 4000000 in
theorem smallp_first {g : Nat} {t : TypeId} (hc : Box w g #[.bool s0, .slice A0 n0 c0, .slice D0 m0 e0, .bool s1, .slice A1 n1 c1, .slice D1 m1 e1, .bool s2, .slice A2 n2 c2, .slice D2 m2 e2, .bool s3, .slice A3 n3 c3, .slice D3 m3 e3] t) (h : ¬ few n0 m0 n1 m1) :
    Calls Tryz.prog 9 #[.int .i64 6, .slice (some ⟨g, 0, none⟩) 2 2] w fun e w' => e = .returned (.bool false) ∧ Below w.heap.size w w' := by
  have cc0_0 := hc.cell 0 _ rfl
  have cc0_1 := hc.cell 1 _ rfl
  have cc0_2 := hc.cell 2 _ rfl
  have cc0_3 := hc.cell 3 _ rfl
  have cc0_4 := hc.cell 4 _ rfl
  have cc0_5 := hc.cell 5 _ rfl
  obtain ⟨V0, hV0, v0, hv0, hs0⟩ := boxes1 w #[.bool s0, .slice A0 n0 c0, .slice D0 m0 e0, .bool s1, .slice A1 n1 c1, .slice D1 m1 e1] 29
  have kk0_0 := v0.cell 0 _ rfl
  have kk0_1 := v0.cell 1 _ rfl
  have kk0_2 := v0.cell 2 _ rfl
  have kk0_3 := v0.cell 3 _ rfl
  have kk0_4 := v0.cell 4 _ rfl
  have kk0_5 := v0.cell 5 _ rfl
  obtain ⟨U0, hU0, u0, hu0, ht0⟩ := boxes1 V0 #[.bool s0, .slice A0 n0 c0, .slice D0 m0 e0, .bool s1, .slice A1 n1 c1, .slice D1 m1 e1] 27
  clear hs0 ht0
  go_enter Tryz.func9, Tryz.ntmps9
  go_wp2_with fail
  refine wp_loop_rounds 3 ?_
  rw [rounds_succ]
  go_wp2_with fail
  refine (smallq6_f u0 h).mono ?_
  rintro e w1 ⟨rfl, hb1⟩
  have H1 := (hv0.trans (hu0.mono hv0.size)).trans (hb1.mono (Nat.le_trans hv0.size hu0.size))
  go_wp2_with fail
  go_returns
  exact ⟨rfl, H1⟩
set_option maxRecDepth 100000 in
set_option maxHeartbeats 4000000 in
theorem smallp_second {g : Nat} {t : TypeId} (hc : Box w g #[.bool s0, .slice A0 n0 c0, .slice D0 m0 e0, .bool s1, .slice A1 n1 c1, .slice D1 m1 e1, .bool s2, .slice A2 n2 c2, .slice D2 m2 e2, .bool s3, .slice A3 n3 c3, .slice D3 m3 e3] t) (h : few n0 m0 n1 m1) (h' : ¬ few n2 m2 n3 m3) :
    Calls Tryz.prog 9 #[.int .i64 6, .slice (some ⟨g, 0, none⟩) 2 2] w fun e w' => e = .returned (.bool false) ∧ Below w.heap.size w w' := by
  have cc0_0 := hc.cell 0 _ rfl
  have cc0_1 := hc.cell 1 _ rfl
  have cc0_2 := hc.cell 2 _ rfl
  have cc0_3 := hc.cell 3 _ rfl
  have cc0_4 := hc.cell 4 _ rfl
  have cc0_5 := hc.cell 5 _ rfl
  obtain ⟨V0, hV0, v0, hv0, hs0⟩ := boxes1 w #[.bool s0, .slice A0 n0 c0, .slice D0 m0 e0, .bool s1, .slice A1 n1 c1, .slice D1 m1 e1] 29
  have kk0_0 := v0.cell 0 _ rfl
  have kk0_1 := v0.cell 1 _ rfl
  have kk0_2 := v0.cell 2 _ rfl
  have kk0_3 := v0.cell 3 _ rfl
  have kk0_4 := v0.cell 4 _ rfl
  have kk0_5 := v0.cell 5 _ rfl
  obtain ⟨U0, hU0, u0, hu0, ht0⟩ := boxes1 V0 #[.bool s0, .slice A0 n0 c0, .slice D0 m0 e0, .bool s1, .slice A1 n1 c1, .slice D1 m1 e1] 27
  clear hs0 ht0
  go_enter Tryz.func9, Tryz.ntmps9
  go_wp2_with fail
  refine wp_loop_rounds 3 ?_
  rw [rounds_succ]
  go_wp2_with fail
  refine (smallq6_t u0 h).mono ?_
  rintro e w1 ⟨rfl, hb1⟩
  have H1 := (hv0.trans (hu0.mono hv0.size)).trans (hb1.mono (Nat.le_trans hv0.size hu0.size))
  have hc1 := ((hc.below hv0).below hu0).below hb1
  clear cc0_0 kk0_0 cc0_1 kk0_1 cc0_2 kk0_2 cc0_3 kk0_3 cc0_4 kk0_4 cc0_5 kk0_5 hV0 hU0 u0 v0
  have cc1_0 := hc1.cell 6 _ rfl
  have cc1_1 := hc1.cell 7 _ rfl
  have cc1_2 := hc1.cell 8 _ rfl
  have cc1_3 := hc1.cell 9 _ rfl
  have cc1_4 := hc1.cell 10 _ rfl
  have cc1_5 := hc1.cell 11 _ rfl
  obtain ⟨V1, hV1, v1, hv1, hs1⟩ := boxes1 w1 #[.bool s2, .slice A2 n2 c2, .slice D2 m2 e2, .bool s3, .slice A3 n3 c3, .slice D3 m3 e3] 29
  have kk1_0 := v1.cell 0 _ rfl
  have kk1_1 := v1.cell 1 _ rfl
  have kk1_2 := v1.cell 2 _ rfl
  have kk1_3 := v1.cell 3 _ rfl
  have kk1_4 := v1.cell 4 _ rfl
  have kk1_5 := v1.cell 5 _ rfl
  obtain ⟨U1, hU1, u1, hu1, ht1⟩ := boxes1 V1 #[.bool s2, .slice A2 n2 c2, .slice D2 m2 e2, .bool s3, .slice A3 n3 c3, .slice D3 m3 e3] 27
  clear hs1 ht1
  go_wp2_with fail
  rw [rounds_succ]
  go_wp2_with fail
  refine (smallq6_f u1 h').mono ?_
  rintro e w2 ⟨rfl, hb2⟩
  have H2 := H1.trans (((hv1.trans (hu1.mono hv1.size)).trans (hb2.mono (Nat.le_trans hv1.size hu1.size))).mono H1.size)
  go_wp2_with fail
  go_returns
  exact ⟨rfl, H2⟩
set_option maxRecDepth 100000 in
set_option maxHeartbeats 4000000 in
theorem pnormal_r {ds0 es0 ds1 es1 : List Nat} (h0 : Raw w (.slice A0 n0 c0) ds0) (h1 : Raw w (.slice D0 m0 e0) es0) (h2 : Raw w (.slice A1 n1 c1) ds1) (h3 : Raw w (.slice D1 m1 e1) es1) (hl0 : ds0.length ≤ 1000000) (hl1 : es0.length ≤ 1000000) (hl2 : ds1.length ≤ 1000000) (hl3 : es1.length ≤ 1000000) :
    Calls Tryz.prog 14 #[.agg #[.bool s0, .slice A0 n0 c0, .slice D0 m0 e0, .bool s1, .slice A1 n1 c1, .slice D1 m1 e1]] w fun e w' => e = .returned (.bool (normQB s0 ds0 es0 && normQB s1 ds1 es1)) ∧ Below w.heap.size w w' := by
  obtain ⟨b1, hb1⟩ : ∃ b, normQB s0 ds0 es0 = b := ⟨_, rfl⟩
  rw [hb1]
  cases b1
  · skip
    go_enter Tryz.func14, Tryz.ntmps14
    go_wp2_with fail
    obtain ⟨W0, hW, b0, hbW, hszW0⟩ := boxes1 w #[.bool s0, .slice A0 n0 c0, .slice D0 m0 e0, .bool s1, .slice A1 n1 c1, .slice D1 m1 e1] 29
    rw [hW]
    clear hW
    replace h0 := h0.below hbW
    replace h1 := h1.below hbW
    replace h2 := h2.below hbW
    replace h3 := h3.below hbW
    have H0 := hbW
    clear hbW
    have cb00 := b0.cell 0 _ rfl
    have cb01 := b0.cell 1 _ rfl
    have cb02 := b0.cell 2 _ rfl
    have cb03 := b0.cell 3 _ rfl
    have cb04 := b0.cell 4 _ rfl
    have cb05 := b0.cell 5 _ rfl
    go_wp2_with fail
    clear cb00 cb01 cb02 cb03 cb04 cb05
    refine (rnormal_r h0 h1 hl0 hl1).mono ?_
    rintro e w1 ⟨rfl, hb⟩
    replace h0 := h0.below hb
    replace h1 := h1.below hb
    replace h2 := h2.below hb
    replace h3 := h3.below hb
    replace b0 := b0.below hb
    replace H0 := H0.trans (hb.mono H0.size)
    clear hb
    rw [hb1]
    have cb00 := b0.cell 0 _ rfl
    have cb01 := b0.cell 1 _ rfl
    have cb02 := b0.cell 2 _ rfl
    have cb03 := b0.cell 3 _ rfl
    have cb04 := b0.cell 4 _ rfl
    have cb05 := b0.cell 5 _ rfl
    go_wp2_with fail
    go_returns
    exact ⟨rfl, H0⟩
  · skip
    go_enter Tryz.func14, Tryz.ntmps14
    go_wp2_with fail
    obtain ⟨W0, hW, b0, hbW, hszW0⟩ := boxes1 w #[.bool s0, .slice A0 n0 c0, .slice D0 m0 e0, .bool s1, .slice A1 n1 c1, .slice D1 m1 e1] 29
    rw [hW]
    clear hW
    replace h0 := h0.below hbW
    replace h1 := h1.below hbW
    replace h2 := h2.below hbW
    replace h3 := h3.below hbW
    have H0 := hbW
    clear hbW
    have cb00 := b0.cell 0 _ rfl
    have cb01 := b0.cell 1 _ rfl
    have cb02 := b0.cell 2 _ rfl
    have cb03 := b0.cell 3 _ rfl
    have cb04 := b0.cell 4 _ rfl
    have cb05 := b0.cell 5 _ rfl
    go_wp2_with fail
    clear cb00 cb01 cb02 cb03 cb04 cb05
    refine (rnormal_r h0 h1 hl0 hl1).mono ?_
    rintro e w1 ⟨rfl, hb⟩
    replace h0 := h0.below hb
    replace h1 := h1.below hb
    replace h2 := h2.below hb
    replace h3 := h3.below hb
    replace b0 := b0.below hb
    replace H0 := H0.trans (hb.mono H0.size)
    clear hb
    rw [hb1]
    have cb00 := b0.cell 0 _ rfl
    have cb01 := b0.cell 1 _ rfl
    have cb02 := b0.cell 2 _ rfl
    have cb03 := b0.cell 3 _ rfl
    have cb04 := b0.cell 4 _ rfl
    have cb05 := b0.cell 5 _ rfl
    go_wp2_with fail
    clear cb00 cb01 cb02 cb03 cb04 cb05
    refine (rnormal_r h2 h3 hl2 hl3).mono ?_
    rintro e w2 ⟨rfl, hb⟩
    replace h0 := h0.below hb
    replace h1 := h1.below hb
    replace h2 := h2.below hb
    replace h3 := h3.below hb
    replace b0 := b0.below hb
    replace H0 := H0.trans (hb.mono H0.size)
    clear hb
    go_wp2_with fail
    go_returns
    exact ⟨rfl, H0⟩
theorem pnormal_b {b : Bool} {ds0 es0 ds1 es1 : List Nat} (h0 : Raw w (.slice A0 n0 c0) ds0) (h1 : Raw w (.slice D0 m0 e0) es0) (h2 : Raw w (.slice A1 n1 c1) ds1) (h3 : Raw w (.slice D1 m1 e1) es1) (hl0 : ds0.length ≤ 1000000) (hl1 : es0.length ≤ 1000000) (hl2 : ds1.length ≤ 1000000) (hl3 : es1.length ≤ 1000000) (hb : (normQB s0 ds0 es0 && normQB s1 ds1 es1) = b) :
    Calls Tryz.prog 14 #[.agg #[.bool s0, .slice A0 n0 c0, .slice D0 m0 e0, .bool s1, .slice A1 n1 c1, .slice D1 m1 e1]] w fun e w' => e = .returned (.bool b) ∧ Below w.heap.size w w' := hb ▸ pnormal_r h0 h1 h2 h3 hl0 hl1 hl2 hl3
set_option maxRecDepth 100000 in
set_option maxHeartbeats 4000000 in
theorem gnormal_r {ds0 es0 ds1 es1 : List Nat} (h0 : Raw w (.slice A0 n0 c0) ds0) (h1 : Raw w (.slice D0 m0 e0) es0) (h2 : Raw w (.slice A1 n1 c1) ds1) (h3 : Raw w (.slice D1 m1 e1) es1) (hl0 : ds0.length ≤ 900) (hl1 : es0.length ≤ 900) (hl2 : ds1.length ≤ 900) (hl3 : es1.length ≤ 900) :
    Calls Tryz.prog 15 #[.agg #[.bool s0, .slice A0 n0 c0, .slice D0 m0 e0, .bool s1, .slice A1 n1 c1, .slice D1 m1 e1]] w fun e w' => e = .returned (.bool (normQB s0 ds0 es0 && normQB s1 ds1 es1)) ∧ Below w.heap.size w w' := by
  obtain ⟨b1, hb1⟩ : ∃ b, normQB s0 ds0 es0 = b := ⟨_, rfl⟩
  rw [hb1]
  cases b1
  · skip
    go_enter Tryz.func15, Tryz.ntmps15
    go_wp2_with fail
    obtain ⟨W0, hW, b0, hbW, hszW0⟩ := boxes1 w #[.bool s0, .slice A0 n0 c0, .slice D0 m0 e0, .bool s1, .slice A1 n1 c1, .slice D1 m1 e1] 29
    rw [hW]
    clear hW
    replace h0 := h0.below hbW
    replace h1 := h1.below hbW
    replace h2 := h2.below hbW
    replace h3 := h3.below hbW
    have H0 := hbW
    clear hbW
    have cb00 := b0.cell 0 _ rfl
    have cb01 := b0.cell 1 _ rfl
    have cb02 := b0.cell 2 _ rfl
    have cb03 := b0.cell 3 _ rfl
    have cb04 := b0.cell 4 _ rfl
    have cb05 := b0.cell 5 _ rfl
    go_wp2_with fail
    clear cb00 cb01 cb02 cb03 cb04 cb05
    refine (normalq_r h0 h1 hl0 hl1).mono ?_
    rintro e w1 ⟨rfl, hb⟩
    replace h0 := h0.below hb
    replace h1 := h1.below hb
    replace h2 := h2.below hb
    replace h3 := h3.below hb
    replace b0 := b0.below hb
    replace H0 := H0.trans (hb.mono H0.size)
    clear hb
    rw [hb1]
    have cb00 := b0.cell 0 _ rfl
    have cb01 := b0.cell 1 _ rfl
    have cb02 := b0.cell 2 _ rfl
    have cb03 := b0.cell 3 _ rfl
    have cb04 := b0.cell 4 _ rfl
    have cb05 := b0.cell 5 _ rfl
    go_wp2_with fail
    go_returns
    exact ⟨rfl, H0⟩
  · skip
    go_enter Tryz.func15, Tryz.ntmps15
    go_wp2_with fail
    obtain ⟨W0, hW, b0, hbW, hszW0⟩ := boxes1 w #[.bool s0, .slice A0 n0 c0, .slice D0 m0 e0, .bool s1, .slice A1 n1 c1, .slice D1 m1 e1] 29
    rw [hW]
    clear hW
    replace h0 := h0.below hbW
    replace h1 := h1.below hbW
    replace h2 := h2.below hbW
    replace h3 := h3.below hbW
    have H0 := hbW
    clear hbW
    have cb00 := b0.cell 0 _ rfl
    have cb01 := b0.cell 1 _ rfl
    have cb02 := b0.cell 2 _ rfl
    have cb03 := b0.cell 3 _ rfl
    have cb04 := b0.cell 4 _ rfl
    have cb05 := b0.cell 5 _ rfl
    go_wp2_with fail
    clear cb00 cb01 cb02 cb03 cb04 cb05
    refine (normalq_r h0 h1 hl0 hl1).mono ?_
    rintro e w1 ⟨rfl, hb⟩
    replace h0 := h0.below hb
    replace h1 := h1.below hb
    replace h2 := h2.below hb
    replace h3 := h3.below hb
    replace b0 := b0.below hb
    replace H0 := H0.trans (hb.mono H0.size)
    clear hb
    rw [hb1]
    have cb00 := b0.cell 0 _ rfl
    have cb01 := b0.cell 1 _ rfl
    have cb02 := b0.cell 2 _ rfl
    have cb03 := b0.cell 3 _ rfl
    have cb04 := b0.cell 4 _ rfl
    have cb05 := b0.cell 5 _ rfl
    go_wp2_with fail
    clear cb00 cb01 cb02 cb03 cb04 cb05
    refine (normalq_r h2 h3 hl2 hl3).mono ?_
    rintro e w2 ⟨rfl, hb⟩
    replace h0 := h0.below hb
    replace h1 := h1.below hb
    replace h2 := h2.below hb
    replace h3 := h3.below hb
    replace b0 := b0.below hb
    replace H0 := H0.trans (hb.mono H0.size)
    clear hb
    go_wp2_with fail
    go_returns
    exact ⟨rfl, H0⟩
theorem gnormal_b {b : Bool} {ds0 es0 ds1 es1 : List Nat} (h0 : Raw w (.slice A0 n0 c0) ds0) (h1 : Raw w (.slice D0 m0 e0) es0) (h2 : Raw w (.slice A1 n1 c1) ds1) (h3 : Raw w (.slice D1 m1 e1) es1) (hl0 : ds0.length ≤ 900) (hl1 : es0.length ≤ 900) (hl2 : ds1.length ≤ 900) (hl3 : es1.length ≤ 900) (hb : (normQB s0 ds0 es0 && normQB s1 ds1 es1) = b) :
    Calls Tryz.prog 15 #[.agg #[.bool s0, .slice A0 n0 c0, .slice D0 m0 e0, .bool s1, .slice A1 n1 c1, .slice D1 m1 e1]] w fun e w' => e = .returned (.bool b) ∧ Below w.heap.size w w' := hb ▸ gnormal_r h0 h1 h2 h3 hl0 hl1 hl2 hl3
end
end Go.Proofs.YtlpgbflajcfgpaaGreatDoor
