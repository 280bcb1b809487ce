/-
  The reference's Same and SameAll.
-/
import Derived.Test.YtpgkkkodniiilaaGreatDoorWSq
import Derived.Test.YtpgkkkodniiilaaGreatDoorWSpJ
import Derived.IntWalk
namespace Go.Proofs.YtpgkkkodniiilaaGreatDoor
open List (getElem_toArray getElem_cons_succ getElem_cons_zero setIfInBounds_toArray set_cons_zero set_cons_succ)
open Go.RowKit
section
variable {f0 h0 f1 h1 f2 h2 f3 h3 f4 h4 f5 h5 f6 h6 f7 h7 f8 h8 f9 h9 f10 h10 f11 h11 : Bool} {A0 A1 A2 A3 D0 D1 D2 D3 : Option Addr} {n0 n1 n2 n3 c0 c1 c2 c3 m0 m1 m2 m3 e0 e1 e2 e3 : Nat} {s0 s1 s2 s3 : Bool} {q0 q1 q2 q3 q4 q5 q6 q7 : Rat} {z0 z1 z2 z3 z4 z5 z6 z7 z8 z9 z10 z11 : Int} {L L0 L1 x y : Nat} {k : Int} {b : Bool} {w : World}
variable {o0 o1 o2 o3 : Option Rat} {l l' : List Sp}
set_option maxRecDepth 100000 in
set_option maxHeartbeats 4000000 in
theorem zero_v (h : Raw w (.slice A0 n0 c0) []) (h' : Raw w (.slice D0 m0 e0) []) :
    Calls Tryz.prog 45 #[.agg #[.bool false, .slice A0 n0 c0, .slice D0 m0 e0]] w fun e w' => e = .returned (.bool true) ∧ Below w.heap.size w w' := by
  have k1 := raw_len0 h
  have k2 := raw_len0 h'
  subst k1 k2
  go_enter Tryz.func45, Tryz.ntmps45
  go_wp2_with fail
  obtain ⟨W0, hW, b0, hbW, hszW0⟩ := boxes1 w #[.bool false, .slice A0 0 c0, .slice D0 0 e0] 28
  rw [hW]
  clear hW
  have H0 := hbW
  clear hbW
  obtain ⟨cb00, cb01, cb02⟩ := b0.cells3
  go_wp2_with fail
  go_returns
  exact ⟨rfl, H0⟩
set_option maxRecDepth 100000 in
set_option maxHeartbeats 4000000 in
theorem sames_v (x0 : EndV w L s0 (.slice A0 n0 c0) (.slice D0 m0 e0) f0 o0) (x1 : EndV w L s1 (.slice A1 n1 c1) (.slice D1 m1 e1) h0 o1) (x2 : EndV w L0 s2 (.slice A2 n2 c2) (.slice D2 m2 e2) f1 o0) (x3 : EndV w L0 s3 (.slice A3 n3 c3) (.slice D3 m3 e3) h1 o1) :
    Calls Tryz.prog 64 #[.agg #[.bool s0, .slice A0 n0 c0, .slice D0 m0 e0, .bool s1, .slice A1 n1 c1, .slice D1 m1 e1, .bool f0, .bool h0], .agg #[.bool s2, .slice A2 n2 c2, .slice D2 m2 e2, .bool s3, .slice A3 n3 c3, .slice D3 m3 e3, .bool f1, .bool h1]] w fun e w' => e = .returned (.bool true) ∧ Below w.heap.size w w' := by
  rcases o0 with _ | p <;> rcases o1 with _ | q
  · skip
    obtain ⟨rfl, rfl, k0, l0⟩ := x0.no rfl
    obtain ⟨rfl, rfl, k1, l1⟩ := x1.no rfl
    obtain ⟨rfl, rfl, k2, l2⟩ := x2.no rfl
    obtain ⟨rfl, rfl, k3, l3⟩ := x3.no rfl
    clear x0 x1 x2 x3
    go_enter Tryz.func64, Tryz.ntmps64
    simp only [List.append_eq, List.cons_append, List.nil_append]
    go_wp2_with fail
    obtain ⟨W0, hW, b0, b1, hbW, hszW0⟩ := boxes2 w #[.bool false, .slice A0 n0 c0, .slice D0 m0 e0, .bool false, .slice A1 n1 c1, .slice D1 m1 e1, .bool true, .bool true] #[.bool false, .slice A2 n2 c2, .slice D2 m2 e2, .bool false, .slice A3 n3 c3, .slice D3 m3 e3, .bool true, .bool true] 32 32
    rw [hW]
    clear hW
    replace k0 := k0.below hbW
    replace l0 := l0.below hbW
    replace k1 := k1.below hbW
    replace l1 := l1.below hbW
    replace k2 := k2.below hbW
    replace l2 := l2.below hbW
    replace k3 := k3.below hbW
    replace l3 := l3.below hbW
    have H0 := hbW
    clear hbW
    obtain ⟨cb00, cb01, cb02, cb03, cb04, cb05, cb06, cb07⟩ := b0.cells8
    obtain ⟨cb10, cb11, cb12, cb13, cb14, cb15, cb16, cb17⟩ := b1.cells8
    go_wp2_with fail
    clear cb00 cb01 cb02 cb03 cb04 cb05 cb06 cb07 cb10 cb11 cb12 cb13 cb14 cb15 cb16 cb17
    refine (zero_v k0 l0).mono ?_
    rintro e w1 ⟨rfl, hb⟩
    replace k0 := k0.below hb
    replace l0 := l0.below hb
    replace k1 := k1.below hb
    replace l1 := l1.below hb
    replace k2 := k2.below hb
    replace l2 := l2.below hb
    replace k3 := k3.below hb
    replace l3 := l3.below hb
    replace b0 := b0.below hb
    replace b1 := b1.below hb
    replace H0 := H0.trans (hb.mono H0.size)
    clear hb
    obtain ⟨cb00, cb01, cb02, cb03, cb04, cb05, cb06, cb07⟩ := b0.cells8
    obtain ⟨cb10, cb11, cb12, cb13, cb14, cb15, cb16, cb17⟩ := b1.cells8
    go_wp2_with fail
    clear cb00 cb01 cb02 cb03 cb04 cb05 cb06 cb07 cb10 cb11 cb12 cb13 cb14 cb15 cb16 cb17
    refine (zero_v k2 l2).mono ?_
    rintro e w2 ⟨rfl, hb⟩
    replace k0 := k0.below hb
    replace l0 := l0.below hb
    replace k1 := k1.below hb
    replace l1 := l1.below hb
    replace k2 := k2.below hb
    replace l2 := l2.below hb
    replace k3 := k3.below hb
    replace l3 := l3.below hb
    replace b0 := b0.below hb
    replace b1 := b1.below hb
    replace H0 := H0.trans (hb.mono H0.size)
    clear hb
    obtain ⟨cb00, cb01, cb02, cb03, cb04, cb05, cb06, cb07⟩ := b0.cells8
    obtain ⟨cb10, cb11, cb12, cb13, cb14, cb15, cb16, cb17⟩ := b1.cells8
    go_wp2_with fail
    clear cb00 cb01 cb02 cb03 cb04 cb05 cb06 cb07 cb10 cb11 cb12 cb13 cb14 cb15 cb16 cb17
    refine (zero_v k1 l1).mono ?_
    rintro e w3 ⟨rfl, hb⟩
    replace k0 := k0.below hb
    replace l0 := l0.below hb
    replace k1 := k1.below hb
    replace l1 := l1.below hb
    replace k2 := k2.below hb
    replace l2 := l2.below hb
    replace k3 := k3.below hb
    replace l3 := l3.below hb
    replace b0 := b0.below hb
    replace b1 := b1.below hb
    replace H0 := H0.trans (hb.mono H0.size)
    clear hb
    obtain ⟨cb00, cb01, cb02, cb03, cb04, cb05, cb06, cb07⟩ := b0.cells8
    obtain ⟨cb10, cb11, cb12, cb13, cb14, cb15, cb16, cb17⟩ := b1.cells8
    go_wp2_with fail
    clear cb00 cb01 cb02 cb03 cb04 cb05 cb06 cb07 cb10 cb11 cb12 cb13 cb14 cb15 cb16 cb17
    refine (zero_v k3 l3).mono ?_
    rintro e w4 ⟨rfl, hb⟩
    replace k0 := k0.below hb
    replace l0 := l0.below hb
    replace k1 := k1.below hb
    replace l1 := l1.below hb
    replace k2 := k2.below hb
    replace l2 := l2.below hb
    replace k3 := k3.below hb
    replace l3 := l3.below hb
    replace b0 := b0.below hb
    replace b1 := b1.below hb
    replace H0 := H0.trans (hb.mono H0.size)
    clear hb
    obtain ⟨cb00, cb01, cb02, cb03, cb04, cb05, cb06, cb07⟩ := b0.cells8
    obtain ⟨cb10, cb11, cb12, cb13, cb14, cb15, cb16, cb17⟩ := b1.cells8
    go_wp2_with fail
    clear cb00 cb01 cb02 cb03 cb04 cb05 cb06 cb07 cb10 cb11 cb12 cb13 cb14 cb15 cb16 cb17
    go_returns
    exact ⟨rfl, H0⟩
  · skip
    obtain ⟨rfl, rfl, k0, l0⟩ := x0.no rfl
    obtain ⟨rfl, k1⟩ := x1.yes rfl
    obtain ⟨rfl, rfl, k2, l2⟩ := x2.no rfl
    obtain ⟨rfl, k3⟩ := x3.yes rfl
    clear x0 x1 x2 x3
    go_enter Tryz.func64, Tryz.ntmps64
    simp only [List.append_eq, List.cons_append, List.nil_append]
    go_wp2_with fail
    obtain ⟨W0, hW, b0, b1, hbW, hszW0⟩ := boxes2 w #[.bool false, .slice A0 n0 c0, .slice D0 m0 e0, .bool s1, .slice A1 n1 c1, .slice D1 m1 e1, .bool true, .bool false] #[.bool false, .slice A2 n2 c2, .slice D2 m2 e2, .bool s3, .slice A3 n3 c3, .slice D3 m3 e3, .bool true, .bool false] 32 32
    rw [hW]
    clear hW
    replace k0 := k0.below hbW
    replace l0 := l0.below hbW
    replace k1 := k1.below hbW
    replace k2 := k2.below hbW
    replace l2 := l2.below hbW
    replace k3 := k3.below hbW
    have H0 := hbW
    clear hbW
    obtain ⟨cb00, cb01, cb02, cb03, cb04, cb05, cb06, cb07⟩ := b0.cells8
    obtain ⟨cb10, cb11, cb12, cb13, cb14, cb15, cb16, cb17⟩ := b1.cells8
    go_wp2_with fail
    clear cb00 cb01 cb02 cb03 cb04 cb05 cb06 cb07 cb10 cb11 cb12 cb13 cb14 cb15 cb16 cb17
    refine (zero_v k0 l0).mono ?_
    rintro e w1 ⟨rfl, hb⟩
    replace k0 := k0.below hb
    replace l0 := l0.below hb
    replace k1 := k1.below hb
    replace k2 := k2.below hb
    replace l2 := l2.below hb
    replace k3 := k3.below hb
    replace b0 := b0.below hb
    replace b1 := b1.below hb
    replace H0 := H0.trans (hb.mono H0.size)
    clear hb
    obtain ⟨cb00, cb01, cb02, cb03, cb04, cb05, cb06, cb07⟩ := b0.cells8
    obtain ⟨cb10, cb11, cb12, cb13, cb14, cb15, cb16, cb17⟩ := b1.cells8
    go_wp2_with fail
    clear cb00 cb01 cb02 cb03 cb04 cb05 cb06 cb07 cb10 cb11 cb12 cb13 cb14 cb15 cb16 cb17
    refine (zero_v k2 l2).mono ?_
    rintro e w2 ⟨rfl, hb⟩
    replace k0 := k0.below hb
    replace l0 := l0.below hb
    replace k1 := k1.below hb
    replace k2 := k2.below hb
    replace l2 := l2.below hb
    replace k3 := k3.below hb
    replace b0 := b0.below hb
    replace b1 := b1.below hb
    replace H0 := H0.trans (hb.mono H0.size)
    clear hb
    obtain ⟨cb00, cb01, cb02, cb03, cb04, cb05, cb06, cb07⟩ := b0.cells8
    obtain ⟨cb10, cb11, cb12, cb13, cb14, cb15, cb16, cb17⟩ := b1.cells8
    go_wp2_with fail
    clear cb00 cb01 cb02 cb03 cb04 cb05 cb06 cb07 cb10 cb11 cb12 cb13 cb14 cb15 cb16 cb17
    refine (sameq_d k1 k3 (decide_eq_true rfl)).mono ?_
    rintro e w3 ⟨rfl, hb⟩
    replace k0 := k0.below hb
    replace l0 := l0.below hb
    replace k1 := k1.below hb
    replace k2 := k2.below hb
    replace l2 := l2.below hb
    replace k3 := k3.below hb
    replace b0 := b0.below hb
    replace b1 := b1.below hb
    replace H0 := H0.trans (hb.mono H0.size)
    clear hb
    obtain ⟨cb00, cb01, cb02, cb03, cb04, cb05, cb06, cb07⟩ := b0.cells8
    obtain ⟨cb10, cb11, cb12, cb13, cb14, cb15, cb16, cb17⟩ := b1.cells8
    go_wp2_with fail
    clear cb00 cb01 cb02 cb03 cb04 cb05 cb06 cb07 cb10 cb11 cb12 cb13 cb14 cb15 cb16 cb17
    go_returns
    exact ⟨rfl, H0⟩
  · skip
    obtain ⟨rfl, k0⟩ := x0.yes rfl
    obtain ⟨rfl, rfl, k1, l1⟩ := x1.no rfl
    obtain ⟨rfl, k2⟩ := x2.yes rfl
    obtain ⟨rfl, rfl, k3, l3⟩ := x3.no rfl
    clear x0 x1 x2 x3
    go_enter Tryz.func64, Tryz.ntmps64
    simp only [List.append_eq, List.cons_append, List.nil_append]
    go_wp2_with fail
    obtain ⟨W0, hW, b0, b1, hbW, hszW0⟩ := boxes2 w #[.bool s0, .slice A0 n0 c0, .slice D0 m0 e0, .bool false, .slice A1 n1 c1, .slice D1 m1 e1, .bool false, .bool true] #[.bool s2, .slice A2 n2 c2, .slice D2 m2 e2, .bool false, .slice A3 n3 c3, .slice D3 m3 e3, .bool false, .bool true] 32 32
    rw [hW]
    clear hW
    replace k0 := k0.below hbW
    replace k1 := k1.below hbW
    replace l1 := l1.below hbW
    replace k2 := k2.below hbW
    replace k3 := k3.below hbW
    replace l3 := l3.below hbW
    have H0 := hbW
    clear hbW
    obtain ⟨cb00, cb01, cb02, cb03, cb04, cb05, cb06, cb07⟩ := b0.cells8
    obtain ⟨cb10, cb11, cb12, cb13, cb14, cb15, cb16, cb17⟩ := b1.cells8
    go_wp2_with fail
    clear cb00 cb01 cb02 cb03 cb04 cb05 cb06 cb07 cb10 cb11 cb12 cb13 cb14 cb15 cb16 cb17
    refine (sameq_d k0 k2 (decide_eq_true rfl)).mono ?_
    rintro e w1 ⟨rfl, hb⟩
    replace k0 := k0.below hb
    replace k1 := k1.below hb
    replace l1 := l1.below hb
    replace k2 := k2.below hb
    replace k3 := k3.below hb
    replace l3 := l3.below hb
    replace b0 := b0.below hb
    replace b1 := b1.below hb
    replace H0 := H0.trans (hb.mono H0.size)
    clear hb
    obtain ⟨cb00, cb01, cb02, cb03, cb04, cb05, cb06, cb07⟩ := b0.cells8
    obtain ⟨cb10, cb11, cb12, cb13, cb14, cb15, cb16, cb17⟩ := b1.cells8
    go_wp2_with fail
    clear cb00 cb01 cb02 cb03 cb04 cb05 cb06 cb07 cb10 cb11 cb12 cb13 cb14 cb15 cb16 cb17
    refine (zero_v k1 l1).mono ?_
    rintro e w2 ⟨rfl, hb⟩
    replace k0 := k0.below hb
    replace k1 := k1.below hb
    replace l1 := l1.below hb
    replace k2 := k2.below hb
    replace k3 := k3.below hb
    replace l3 := l3.below hb
    replace b0 := b0.below hb
    replace b1 := b1.below hb
    replace H0 := H0.trans (hb.mono H0.size)
    clear hb
    obtain ⟨cb00, cb01, cb02, cb03, cb04, cb05, cb06, cb07⟩ := b0.cells8
    obtain ⟨cb10, cb11, cb12, cb13, cb14, cb15, cb16, cb17⟩ := b1.cells8
    go_wp2_with fail
    clear cb00 cb01 cb02 cb03 cb04 cb05 cb06 cb07 cb10 cb11 cb12 cb13 cb14 cb15 cb16 cb17
    refine (zero_v k3 l3).mono ?_
    rintro e w3 ⟨rfl, hb⟩
    replace k0 := k0.below hb
    replace k1 := k1.below hb
    replace l1 := l1.below hb
    replace k2 := k2.below hb
    replace k3 := k3.below hb
    replace l3 := l3.below hb
    replace b0 := b0.below hb
    replace b1 := b1.below hb
    replace H0 := H0.trans (hb.mono H0.size)
    clear hb
    obtain ⟨cb00, cb01, cb02, cb03, cb04, cb05, cb06, cb07⟩ := b0.cells8
    obtain ⟨cb10, cb11, cb12, cb13, cb14, cb15, cb16, cb17⟩ := b1.cells8
    go_wp2_with fail
    clear cb00 cb01 cb02 cb03 cb04 cb05 cb06 cb07 cb10 cb11 cb12 cb13 cb14 cb15 cb16 cb17
    go_returns
    exact ⟨rfl, H0⟩
  · skip
    obtain ⟨rfl, k0⟩ := x0.yes rfl
    obtain ⟨rfl, k1⟩ := x1.yes rfl
    obtain ⟨rfl, k2⟩ := x2.yes rfl
    obtain ⟨rfl, k3⟩ := x3.yes rfl
    clear x0 x1 x2 x3
    go_enter Tryz.func64, Tryz.ntmps64
    simp only [List.append_eq, List.cons_append, List.nil_append]
    go_wp2_with fail
    obtain ⟨W0, hW, b0, b1, hbW, hszW0⟩ := boxes2 w #[.bool s0, .slice A0 n0 c0, .slice D0 m0 e0, .bool s1, .slice A1 n1 c1, .slice D1 m1 e1, .bool false, .bool false] #[.bool s2, .slice A2 n2 c2, .slice D2 m2 e2, .bool s3, .slice A3 n3 c3, .slice D3 m3 e3, .bool false, .bool false] 32 32
    rw [hW]
    clear hW
    replace k0 := k0.below hbW
    replace k1 := k1.below hbW
    replace k2 := k2.below hbW
    replace k3 := k3.below hbW
    have H0 := hbW
    clear hbW
    obtain ⟨cb00, cb01, cb02, cb03, cb04, cb05, cb06, cb07⟩ := b0.cells8
    obtain ⟨cb10, cb11, cb12, cb13, cb14, cb15, cb16, cb17⟩ := b1.cells8
    go_wp2_with fail
    clear cb00 cb01 cb02 cb03 cb04 cb05 cb06 cb07 cb10 cb11 cb12 cb13 cb14 cb15 cb16 cb17
    refine (sameq_d k0 k2 (decide_eq_true rfl)).mono ?_
    rintro e w1 ⟨rfl, hb⟩
    replace k0 := k0.below hb
    replace k1 := k1.below hb
    replace k2 := k2.below hb
    replace k3 := k3.below hb
    replace b0 := b0.below hb
    replace b1 := b1.below hb
    replace H0 := H0.trans (hb.mono H0.size)
    clear hb
    obtain ⟨cb00, cb01, cb02, cb03, cb04, cb05, cb06, cb07⟩ := b0.cells8
    obtain ⟨cb10, cb11, cb12, cb13, cb14, cb15, cb16, cb17⟩ := b1.cells8
    go_wp2_with fail
    clear cb00 cb01 cb02 cb03 cb04 cb05 cb06 cb07 cb10 cb11 cb12 cb13 cb14 cb15 cb16 cb17
    refine (sameq_d k1 k3 (decide_eq_true rfl)).mono ?_
    rintro e w2 ⟨rfl, hb⟩
    replace k0 := k0.below hb
    replace k1 := k1.below hb
    replace k2 := k2.below hb
    replace k3 := k3.below hb
    replace b0 := b0.below hb
    replace b1 := b1.below hb
    replace H0 := H0.trans (hb.mono H0.size)
    clear hb
    obtain ⟨cb00, cb01, cb02, cb03, cb04, cb05, cb06, cb07⟩ := b0.cells8
    obtain ⟨cb10, cb11, cb12, cb13, cb14, cb15, cb16, cb17⟩ := b1.cells8
    go_wp2_with fail
    clear cb00 cb01 cb02 cb03 cb04 cb05 cb06 cb07 cb10 cb11 cb12 cb13 cb14 cb15 cb16 cb17
    go_returns
    exact ⟨rfl, H0⟩
set_option maxRecDepth 100000 in
set_option maxHeartbeats 4000000 in
theorem sameall_v {va vb : Value} (hA : SpS w L va l) (hB : SpS w L0 vb l) :
    Calls Tryz.prog 28 #[va, vb] w fun e w' => e = .returned (.bool true) ∧ Below w.heap.size w w' := by
  obtain ⟨A, c, rfl, hc1, hc2⟩ := hA.form
  obtain ⟨A', c', rfl, hc3, hc4⟩ := hB.form
  unfold maxLen at hc2 hc4
  go_enter Tryz.func28, Tryz.ntmps28
  go_wp2_with fail
  go_loopw [5, 13] (fun _ t13 wr => ∃ k : Nat, t13 = .int .i64 (k : Int) ∧ k ≤ l.length ∧ Below w.heap.size w wr) (fun _ t13 _ => l.length - (intOf t13).toNat)
  case atStart => exact ⟨0, rfl, Nat.zero_le _, Below.refl _ _⟩
  case round =>
    obtain ⟨k, rfl, hk, H0⟩ := hrel
    by_cases hlt : k < l.length
    · obtain ⟨g, o, s0, A0, n0, c0, D0, m0, e0, s1, A1, n1, c1, D1, m1, e1, f0, h0, rfl, cc0, cc1, cc2, cc3, cc4, cc5, cc6, cc7, y0, y1⟩ := (hA.below H0).elem (List.getElem?_eq_getElem hlt)
      obtain ⟨g', o', s2, A2, n2, c2, D2, m2, e2, s3, A3, n3, c3, D3, m3, e3, f1, h1, rfl, dd0, dd1, dd2, dd3, dd4, dd5, dd6, dd7, y2, y3⟩ := (hB.below H0).elem (List.getElem?_eq_getElem hlt)
      have p0 : CellF wr _ _ := cc0
      have r0 : CellF wr _ _ := dd0
      have p1 : CellF wr _ _ := cc1
      have r1 : CellF wr _ _ := dd1
      have p2 : CellF wr _ _ := cc2
      have r2 : CellF wr _ _ := dd2
      have p3 : CellF wr _ _ := cc3
      have r3 : CellF wr _ _ := dd3
      have p4 : CellF wr _ _ := cc4
      have r4 : CellF wr _ _ := dd4
      have p5 : CellF wr _ _ := cc5
      have r5 : CellF wr _ _ := dd5
      have p6 : CellF wr _ _ := cc6
      have r6 : CellF wr _ _ := dd6
      have p7 : CellF wr _ _ := cc7
      have r7 : CellF wr _ _ := dd7
      clear cc0 dd0 cc1 dd1 cc2 dd2 cc3 dd3 cc4 dd4 cc5 dd5 cc6 dd6 cc7 dd7 hA hB
      go_wp2_with fail
      have hD := drawn_below wr
      replace y0 := y0.below hD
      replace y1 := y1.below hD
      replace y2 := y2.below hD
      replace y3 := y3.below hD
      replace p0 := p0.below hD
      replace p1 := p1.below hD
      replace p2 := p2.below hD
      replace p3 := p3.below hD
      replace p4 := p4.below hD
      replace p5 := p5.below hD
      replace p6 := p6.below hD
      replace p7 := p7.below hD
      replace r0 := r0.below hD
      replace r1 := r1.below hD
      replace r2 := r2.below hD
      replace r3 := r3.below hD
      replace r4 := r4.below hD
      replace r5 := r5.below hD
      replace r6 := r6.below hD
      replace r7 := r7.below hD
      replace H0 := H0.trans (hD.mono H0.size)
      clear hD
      refine wp_region_noPanic ?_
      refine wp_region_held_drew (S := (fun V => V.cell? ⟨g, o + k * 8, none⟩ = some (.bool s0) ∧ V.cell? ⟨g, o + k * 8 + 1, none⟩ = some (.slice A0 n0 c0) ∧ V.cell? ⟨g, o + k * 8 + 2, none⟩ = some (.slice D0 m0 e0) ∧ V.cell? ⟨g, o + k * 8 + 3, none⟩ = some (.bool s1) ∧ V.cell? ⟨g, o + k * 8 + 4, none⟩ = some (.slice A1 n1 c1) ∧ V.cell? ⟨g, o + k * 8 + 5, none⟩ = some (.slice D1 m1 e1) ∧ V.cell? ⟨g, o + k * 8 + 6, none⟩ = some (.bool f0) ∧ V.cell? ⟨g, o + k * 8 + 7, none⟩ = some (.bool h0) ∧ V.cell? ⟨g', o' + k * 8, none⟩ = some (.bool s2) ∧ V.cell? ⟨g', o' + k * 8 + 1, none⟩ = some (.slice A2 n2 c2) ∧ V.cell? ⟨g', o' + k * 8 + 2, none⟩ = some (.slice D2 m2 e2) ∧ V.cell? ⟨g', o' + k * 8 + 3, none⟩ = some (.bool s3) ∧ V.cell? ⟨g', o' + k * 8 + 4, none⟩ = some (.slice A3 n3 c3) ∧ V.cell? ⟨g', o' + k * 8 + 5, none⟩ = some (.slice D3 m3 e3) ∧ V.cell? ⟨g', o' + k * 8 + 6, none⟩ = some (.bool f1) ∧ V.cell? ⟨g', o' + k * 8 + 7, none⟩ = some (.bool h1))) (by kernel_rfl) ⟨p0.eq, p1.eq, p2.eq, p3.eq, p4.eq, p5.eq, p6.eq, p7.eq, r0.eq, r1.eq, r2.eq, r3.eq, r4.eq, r5.eq, r6.eq, r7.eq⟩ (fun hHeld => ?_)
      generalize wr.drew = v100 at H0 hHeld y0 y1 y2 y3 p0 p1 p2 p3 p4 p5 p6 p7 r0 r1 r2 r3 r4 r5 r6 r7 ⊢
      refine todo [0, 1, 4, 5, 2, 6, 3, 7] ?_
      iterate 8
        refine tkT ?_ rfl (by kernel_rfl) (fun _ _ _ h => h) (by rfl) (by assumption) ?_ ?_
        rotate_left
        · (intro w hSw; (try dsimp only at hSw); go_simp; (try with_reducible rfl))
        (try simp only [getElem_toArray, getElem_cons_succ, getElem_cons_zero, Act.put, setIfInBounds_toArray, set_cons_zero, set_cons_succ])
      refine tdone ?_
      refine rd1 8 (by kernel_rfl) rfl (fun K hK => ?_)
      go_simp
      go_at_call 64
      refine (sames_v y0 y1 y2 y3).mono ?_
      rintro e w101 ⟨rfl, hb⟩
      replace y0 := y0.below hb
      replace y1 := y1.below hb
      replace y2 := y2.below hb
      replace y3 := y3.below hb
      replace p0 := p0.below hb
      replace p1 := p1.below hb
      replace p2 := p2.below hb
      replace p3 := p3.below hb
      replace p4 := p4.below hb
      replace p5 := p5.below hb
      replace p6 := p6.below hb
      replace p7 := p7.below hb
      replace r0 := r0.below hb
      replace r1 := r1.below hb
      replace r2 := r2.below hb
      replace r3 := r3.below hb
      replace r4 := r4.below hb
      replace r5 := r5.below hb
      replace r6 := r6.below hb
      replace r7 := r7.below hb
      replace H0 := H0.trans (hb.mono H0.size)
      clear hb
      go_wp2_with fail
      refine hK.out _ _ ⟨p0.eq, p1.eq, p2.eq, p3.eq, p4.eq, p5.eq, p6.eq, p7.eq, r0.eq, r1.eq, r2.eq, r3.eq, r4.eq, r5.eq, r6.eq, r7.eq⟩ (fun hHeld => ?_)
      clear hK K
      (try simp only [getElem_toArray, getElem_cons_succ, getElem_cons_zero, Act.put, setIfInBounds_toArray, set_cons_zero, set_cons_succ])
      refine tk 9 ?_ rfl (by kernel_rfl) (fun _ _ _ h => h) (by rfl) (by assumption) ?_ ?_
      rotate_left
      · (intro w hSw; (try dsimp only at hSw); go_simp; (try with_reducible rfl))
      (try simp only [getElem_toArray, getElem_cons_succ, getElem_cons_zero, Act.put, setIfInBounds_toArray, set_cons_zero, set_cons_succ])
      refine wpAnyH_done (by kernel_rfl) ?_ _
      refine NoPanic.normal ?_
      go_wp2_with fail
      go_roundw
      case rel => exact ⟨k + 1, by go_num, by omega, H0⟩
      case measure => simp [intOf]; omega
    · clear hA hB
      go_wp2_with fail
      go_ret
      exact ⟨rfl, H0⟩
end
end Go.Proofs.YtpgkkkodniiilaaGreatDoor
