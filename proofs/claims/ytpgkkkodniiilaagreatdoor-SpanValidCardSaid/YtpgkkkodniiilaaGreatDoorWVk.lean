/-
  The program's place and Class.
-/
import Derived.Test.YtpgkkkodniiilaaGreatDoorWSq
import Derived.Test.YtpgkkkodniiilaaGreatDoorWSpY
import Derived.IntWalk
import Derived.Deep.Cut
namespace Go.Proofs.YtpgkkkodniiilaaGreatDoor
open Go.RowKit
section
variable {f0 h0 f1 h1 f2 h2 f3 h3 f4 h4 f5 h5 f6 h6 f7 h7 f8 h8 f9 h9 f10 h10 f11 h11 : Bool} {A0 A1 A4 D0 D1 D4 : Option Addr} {n0 n1 n4 c0 c1 c4 m0 m1 m4 e0 e1 e4 : Nat} {s0 s1 s4 : Bool} {q0 q1 q2 q3 q4 q5 q6 q7 : Rat} {z0 z1 z2 z3 z4 z5 z6 z7 z8 z9 z10 z11 : Int} {L L0 L1 x y : Nat} {k : Int} {w : World}
variable {o0 o1 o2 o3 : Option Rat} {l l' : List Sp}
/-- Where a number lies to a span: -1 inside, 0 at an end, 1 outside. -/
def plS (s : Sp) (x : Rat) : Int := match s.lo, s.hi with
  | none, none => -1
  | some a, none => rsg (a - x)
  | none, some b => max (-1) (rsg (x - b))
  | some a, some b => max (rsg (a - x)) (rsg (x - b))
theorem rsg_swap (a b : Rat) : rsg (a - b) = -rsg (b - a) := by
  rcases rsg_tri a b with ⟨h1, h2⟩ | ⟨h1, h2⟩ | ⟨h1, h2⟩
  · rw [h1, rsg_gt h2]
  · rw [h1, rsg_eq h2.symm]; rfl
  · rw [h1, rsg_lt h2]; rfl
theorem pl_tri (s : Sp) (x : Rat) : plS s x = -1 ∨ plS s x = 0 ∨ plS s x = 1 := by
  unfold plS
  cases s.lo with
  | none =>
    cases s.hi with
    | none => exact .inl rfl
    | some b => rcases rsg_tri x b with ⟨h1, _⟩ | ⟨h1, _⟩ | ⟨h1, _⟩ <;> simp only [h1] <;> decide
  | some a =>
    cases s.hi with
    | none => rcases rsg_tri a x with ⟨h1, _⟩ | ⟨h1, _⟩ | ⟨h1, _⟩ <;> simp only [h1] <;> decide
    | some b => rcases rsg_tri a x with ⟨h1, _⟩ | ⟨h1, _⟩ | ⟨h1, _⟩ <;> rcases rsg_tri x b with ⟨h2, _⟩ | ⟨h2, _⟩ | ⟨h2, _⟩ <;> simp only [h1, h2] <;> decide
theorem cls_pl (s : Sp) (x : Rat) : clsS s x = if plS s x = -1 then some 2 else if plS s x = 0 then some 1 else none := by
  unfold clsS plS loS hiS
  cases s.lo with
  | none =>
    cases s.hi with
    | none => rfl
    | some b => rcases rsg_tri x b with ⟨h1, _⟩ | ⟨h1, _⟩ | ⟨h1, _⟩ <;> simp only [h1] <;> decide
  | some a =>
    cases s.hi with
    | none => simp only [rsg_swap a x]; rcases rsg_tri x a with ⟨h1, _⟩ | ⟨h1, _⟩ | ⟨h1, _⟩ <;> simp only [h1] <;> decide
    | some b => simp only [rsg_swap a x]; rcases rsg_tri x a with ⟨h1, _⟩ | ⟨h1, _⟩ | ⟨h1, _⟩ <;> rcases rsg_tri x b with ⟨h2, _⟩ | ⟨h2, _⟩ | ⟨h2, _⟩ <;> simp only [h1, h2] <;> decide
theorem cls_in {s : Sp} {x : Rat} (h : plS s x = -1) : clsS s x = some 2 := by rw [cls_pl, if_pos h]
theorem cls_on {s : Sp} {x : Rat} (h : plS s x = 0) : clsS s x = some 1 := by rw [cls_pl, if_neg (by omega), if_pos h]
theorem cls_out {s : Sp} {x : Rat} (h : plS s x = 1) : clsS s x = none := by rw [cls_pl, if_neg (by omega), if_neg (by omega)]
set_option maxRecDepth 100000 in
set_option maxHeartbeats 4000000 in
theorem place_v {q : Rat} (x0 : EndV w L s0 (.slice A0 n0 c0) (.slice D0 m0 e0) f0 o0) (x1 : EndV w L s1 (.slice A1 n1 c1) (.slice D1 m1 e1) h0 o1) (hq : RQ w s4 (.slice A4 n4 c4) (.slice D4 m4 e4) q L0) (hL : L ≤ 1000) (hL0 : L0 ≤ 1000) :
    Calls Tryz.prog 50 #[.agg #[.bool s0, .slice A0 n0 c0, .slice D0 m0 e0, .bool s1, .slice A1 n1 c1, .slice D1 m1 e1, .bool f0, .bool h0], .agg #[.bool s4, .slice A4 n4 c4, .slice D4 m4 e4]] w fun e w' => e = .returned (.int .i64 (plS ⟨o0, o1⟩ q)) ∧ Below w.heap.size w w' := by
  rcases o0 with _ | p <;> rcases o1 with _ | p'
  · obtain ⟨rfl, rfl, -, -⟩ := x0.no rfl
    obtain ⟨rfl, rfl, -, -⟩ := x1.no rfl
    clear x0 x1
    go_enter Tryz.func50, Tryz.ntmps50
    go_wp2_with fail
    obtain ⟨W0, hW, b2, b3, hbW, hszW0⟩ := boxes2 w #[.bool false, .slice A0 n0 c0, .slice D0 m0 e0, .bool false, .slice A1 n1 c1, .slice D1 m1 e1, .bool true, .bool true] #[.bool s4, .slice A4 n4 c4, .slice D4 m4 e4] 32 28
    rw [hW]
    clear hW
    replace hq := hq.below hbW
    have H0 := hbW
    clear hbW
    obtain ⟨cb20, cb21, cb22, cb23, cb24, cb25, cb26, cb27⟩ := b2.cells8
    obtain ⟨cb30, cb31, cb32⟩ := b3.cells3
    go_wp2_with fail
    clear cb20 cb21 cb22 cb23 cb24 cb25 cb26 cb27 cb30 cb31 cb32
    go_returns
    exact ⟨rfl, H0⟩
  · obtain ⟨rfl, rfl, -, -⟩ := x0.no rfl
    obtain ⟨rfl, k1⟩ := x1.yes rfl
    clear x0 x1
    obtain ⟨b, hb⟩ : ∃ k, rsg (q - p') = k := ⟨_, rfl⟩
    have hb3 : b = -1 ∨ b = 0 ∨ b = 1 := by rw [← hb]; rcases rsg_tri q p' with h9 | h9 | h9 <;> omega
    rcases hb3 with rfl | rfl | rfl
    · have HB := Lib.hid hb
      clear hb
      go_enter Tryz.func50, Tryz.ntmps50
      go_wp2_with fail
      obtain ⟨W0, hW, b2, b3, hbW, hszW0⟩ := boxes2 w #[.bool false, .slice A0 n0 c0, .slice D0 m0 e0, .bool s1, .slice A1 n1 c1, .slice D1 m1 e1, .bool true, .bool false] #[.bool s4, .slice A4 n4 c4, .slice D4 m4 e4] 32 28
      rw [hW]
      clear hW
      replace hq := hq.below hbW
      replace k1 := k1.below hbW
      have H0 := hbW
      clear hbW
      obtain ⟨cb20, cb21, cb22, cb23, cb24, cb25, cb26, cb27⟩ := b2.cells8
      obtain ⟨cb30, cb31, cb32⟩ := b3.cells3
      go_wp2_with fail
      clear cb20 cb21 cb22 cb23 cb24 cb25 cb26 cb27 cb30 cb31 cb32
      refine (rcmp_v hq k1.rq (by omega) (by omega) HB.out).mono ?_
      rintro e w1 ⟨rfl, hb⟩
      replace hq := hq.below hb
      replace k1 := k1.below hb
      replace b2 := b2.below hb
      replace b3 := b3.below hb
      replace H0 := H0.trans (hb.mono H0.size)
      clear hb
      obtain ⟨cb20, cb21, cb22, cb23, cb24, cb25, cb26, cb27⟩ := b2.cells8
      obtain ⟨cb30, cb31, cb32⟩ := b3.cells3
      go_wp2_with fail
      clear cb20 cb21 cb22 cb23 cb24 cb25 cb26 cb27 cb30 cb31 cb32
      go_returns
      exact ⟨by first | rfl | (simp only [plS, HB.out]; rfl), H0⟩
    · have HB := Lib.hid hb
      clear hb
      go_enter Tryz.func50, Tryz.ntmps50
      go_wp2_with fail
      obtain ⟨W0, hW, b2, b3, hbW, hszW0⟩ := boxes2 w #[.bool false, .slice A0 n0 c0, .slice D0 m0 e0, .bool s1, .slice A1 n1 c1, .slice D1 m1 e1, .bool true, .bool false] #[.bool s4, .slice A4 n4 c4, .slice D4 m4 e4] 32 28
      rw [hW]
      clear hW
      replace hq := hq.below hbW
      replace k1 := k1.below hbW
      have H0 := hbW
      clear hbW
      obtain ⟨cb20, cb21, cb22, cb23, cb24, cb25, cb26, cb27⟩ := b2.cells8
      obtain ⟨cb30, cb31, cb32⟩ := b3.cells3
      go_wp2_with fail
      clear cb20 cb21 cb22 cb23 cb24 cb25 cb26 cb27 cb30 cb31 cb32
      refine (rcmp_v hq k1.rq (by omega) (by omega) HB.out).mono ?_
      rintro e w1 ⟨rfl, hb⟩
      replace hq := hq.below hb
      replace k1 := k1.below hb
      replace b2 := b2.below hb
      replace b3 := b3.below hb
      replace H0 := H0.trans (hb.mono H0.size)
      clear hb
      obtain ⟨cb20, cb21, cb22, cb23, cb24, cb25, cb26, cb27⟩ := b2.cells8
      obtain ⟨cb30, cb31, cb32⟩ := b3.cells3
      go_wp2_with fail
      clear cb20 cb21 cb22 cb23 cb24 cb25 cb26 cb27 cb30 cb31 cb32
      go_returns
      exact ⟨by first | rfl | (simp only [plS, HB.out]; rfl), H0⟩
    · have HB := Lib.hid hb
      clear hb
      go_enter Tryz.func50, Tryz.ntmps50
      go_wp2_with fail
      obtain ⟨W0, hW, b2, b3, hbW, hszW0⟩ := boxes2 w #[.bool false, .slice A0 n0 c0, .slice D0 m0 e0, .bool s1, .slice A1 n1 c1, .slice D1 m1 e1, .bool true, .bool false] #[.bool s4, .slice A4 n4 c4, .slice D4 m4 e4] 32 28
      rw [hW]
      clear hW
      replace hq := hq.below hbW
      replace k1 := k1.below hbW
      have H0 := hbW
      clear hbW
      obtain ⟨cb20, cb21, cb22, cb23, cb24, cb25, cb26, cb27⟩ := b2.cells8
      obtain ⟨cb30, cb31, cb32⟩ := b3.cells3
      go_wp2_with fail
      clear cb20 cb21 cb22 cb23 cb24 cb25 cb26 cb27 cb30 cb31 cb32
      refine (rcmp_v hq k1.rq (by omega) (by omega) HB.out).mono ?_
      rintro e w1 ⟨rfl, hb⟩
      replace hq := hq.below hb
      replace k1 := k1.below hb
      replace b2 := b2.below hb
      replace b3 := b3.below hb
      replace H0 := H0.trans (hb.mono H0.size)
      clear hb
      obtain ⟨cb20, cb21, cb22, cb23, cb24, cb25, cb26, cb27⟩ := b2.cells8
      obtain ⟨cb30, cb31, cb32⟩ := b3.cells3
      go_wp2_with fail
      clear cb20 cb21 cb22 cb23 cb24 cb25 cb26 cb27 cb30 cb31 cb32
      go_returns
      exact ⟨by first | rfl | (simp only [plS, HB.out]; rfl), H0⟩
  · obtain ⟨rfl, k0⟩ := x0.yes rfl
    obtain ⟨rfl, rfl, -, -⟩ := x1.no rfl
    clear x0 x1
    obtain ⟨a, ha⟩ : ∃ k, rsg (p - q) = k := ⟨_, rfl⟩
    have ha3 : a = -1 ∨ a = 0 ∨ a = 1 := by rw [← ha]; rcases rsg_tri p q with h9 | h9 | h9 <;> omega
    rcases ha3 with rfl | rfl | rfl
    · have HA := Lib.hid ha
      clear ha
      go_enter Tryz.func50, Tryz.ntmps50
      go_wp2_with fail
      obtain ⟨W0, hW, b2, b3, hbW, hszW0⟩ := boxes2 w #[.bool s0, .slice A0 n0 c0, .slice D0 m0 e0, .bool false, .slice A1 n1 c1, .slice D1 m1 e1, .bool false, .bool true] #[.bool s4, .slice A4 n4 c4, .slice D4 m4 e4] 32 28
      rw [hW]
      clear hW
      replace hq := hq.below hbW
      replace k0 := k0.below hbW
      have H0 := hbW
      clear hbW
      obtain ⟨cb20, cb21, cb22, cb23, cb24, cb25, cb26, cb27⟩ := b2.cells8
      obtain ⟨cb30, cb31, cb32⟩ := b3.cells3
      go_wp2_with fail
      clear cb20 cb21 cb22 cb23 cb24 cb25 cb26 cb27 cb30 cb31 cb32
      refine (rcmp_v k0.rq hq (by omega) (by omega) HA.out).mono ?_
      rintro e w1 ⟨rfl, hb⟩
      replace hq := hq.below hb
      replace k0 := k0.below hb
      replace b2 := b2.below hb
      replace b3 := b3.below hb
      replace H0 := H0.trans (hb.mono H0.size)
      clear hb
      obtain ⟨cb20, cb21, cb22, cb23, cb24, cb25, cb26, cb27⟩ := b2.cells8
      obtain ⟨cb30, cb31, cb32⟩ := b3.cells3
      go_wp2_with fail
      clear cb20 cb21 cb22 cb23 cb24 cb25 cb26 cb27 cb30 cb31 cb32
      go_returns
      exact ⟨by first | rfl | (simp only [plS, HA.out]; rfl), H0⟩
    · have HA := Lib.hid ha
      clear ha
      go_enter Tryz.func50, Tryz.ntmps50
      go_wp2_with fail
      obtain ⟨W0, hW, b2, b3, hbW, hszW0⟩ := boxes2 w #[.bool s0, .slice A0 n0 c0, .slice D0 m0 e0, .bool false, .slice A1 n1 c1, .slice D1 m1 e1, .bool false, .bool true] #[.bool s4, .slice A4 n4 c4, .slice D4 m4 e4] 32 28
      rw [hW]
      clear hW
      replace hq := hq.below hbW
      replace k0 := k0.below hbW
      have H0 := hbW
      clear hbW
      obtain ⟨cb20, cb21, cb22, cb23, cb24, cb25, cb26, cb27⟩ := b2.cells8
      obtain ⟨cb30, cb31, cb32⟩ := b3.cells3
      go_wp2_with fail
      clear cb20 cb21 cb22 cb23 cb24 cb25 cb26 cb27 cb30 cb31 cb32
      refine (rcmp_v k0.rq hq (by omega) (by omega) HA.out).mono ?_
      rintro e w1 ⟨rfl, hb⟩
      replace hq := hq.below hb
      replace k0 := k0.below hb
      replace b2 := b2.below hb
      replace b3 := b3.below hb
      replace H0 := H0.trans (hb.mono H0.size)
      clear hb
      obtain ⟨cb20, cb21, cb22, cb23, cb24, cb25, cb26, cb27⟩ := b2.cells8
      obtain ⟨cb30, cb31, cb32⟩ := b3.cells3
      go_wp2_with fail
      clear cb20 cb21 cb22 cb23 cb24 cb25 cb26 cb27 cb30 cb31 cb32
      go_returns
      exact ⟨by first | rfl | (simp only [plS, HA.out]; rfl), H0⟩
    · have HA := Lib.hid ha
      clear ha
      go_enter Tryz.func50, Tryz.ntmps50
      go_wp2_with fail
      obtain ⟨W0, hW, b2, b3, hbW, hszW0⟩ := boxes2 w #[.bool s0, .slice A0 n0 c0, .slice D0 m0 e0, .bool false, .slice A1 n1 c1, .slice D1 m1 e1, .bool false, .bool true] #[.bool s4, .slice A4 n4 c4, .slice D4 m4 e4] 32 28
      rw [hW]
      clear hW
      replace hq := hq.below hbW
      replace k0 := k0.below hbW
      have H0 := hbW
      clear hbW
      obtain ⟨cb20, cb21, cb22, cb23, cb24, cb25, cb26, cb27⟩ := b2.cells8
      obtain ⟨cb30, cb31, cb32⟩ := b3.cells3
      go_wp2_with fail
      clear cb20 cb21 cb22 cb23 cb24 cb25 cb26 cb27 cb30 cb31 cb32
      refine (rcmp_v k0.rq hq (by omega) (by omega) HA.out).mono ?_
      rintro e w1 ⟨rfl, hb⟩
      replace hq := hq.below hb
      replace k0 := k0.below hb
      replace b2 := b2.below hb
      replace b3 := b3.below hb
      replace H0 := H0.trans (hb.mono H0.size)
      clear hb
      obtain ⟨cb20, cb21, cb22, cb23, cb24, cb25, cb26, cb27⟩ := b2.cells8
      obtain ⟨cb30, cb31, cb32⟩ := b3.cells3
      go_wp2_with fail
      clear cb20 cb21 cb22 cb23 cb24 cb25 cb26 cb27 cb30 cb31 cb32
      go_returns
      exact ⟨by first | rfl | (simp only [plS, HA.out]; rfl), H0⟩
  · obtain ⟨rfl, k0⟩ := x0.yes rfl
    obtain ⟨rfl, k1⟩ := x1.yes rfl
    clear x0 x1
    obtain ⟨a, ha⟩ : ∃ k, rsg (p - q) = k := ⟨_, rfl⟩
    have ha3 : a = -1 ∨ a = 0 ∨ a = 1 := by rw [← ha]; rcases rsg_tri p q with h9 | h9 | h9 <;> omega
    obtain ⟨b, hb⟩ : ∃ k, rsg (q - p') = k := ⟨_, rfl⟩
    have hb3 : b = -1 ∨ b = 0 ∨ b = 1 := by rw [← hb]; rcases rsg_tri q p' with h9 | h9 | h9 <;> omega
    rcases ha3 with rfl | rfl | rfl
    · rcases hb3 with rfl | rfl | rfl
      · have HA := Lib.hid ha
        clear ha
        have HB := Lib.hid hb
        clear hb
        go_enter Tryz.func50, Tryz.ntmps50
        go_wp2_with fail
        obtain ⟨W0, hW, b2, b3, hbW, hszW0⟩ := boxes2 w #[.bool s0, .slice A0 n0 c0, .slice D0 m0 e0, .bool s1, .slice A1 n1 c1, .slice D1 m1 e1, .bool false, .bool false] #[.bool s4, .slice A4 n4 c4, .slice D4 m4 e4] 32 28
        rw [hW]
        clear hW
        replace hq := hq.below hbW
        replace k0 := k0.below hbW
        replace k1 := k1.below hbW
        have H0 := hbW
        clear hbW
        obtain ⟨cb20, cb21, cb22, cb23, cb24, cb25, cb26, cb27⟩ := b2.cells8
        obtain ⟨cb30, cb31, cb32⟩ := b3.cells3
        go_wp2_with fail
        clear cb20 cb21 cb22 cb23 cb24 cb25 cb26 cb27 cb30 cb31 cb32
        refine (rcmp_v k0.rq hq (by omega) (by omega) HA.out).mono ?_
        rintro e w1 ⟨rfl, hb⟩
        replace hq := hq.below hb
        replace k0 := k0.below hb
        replace k1 := k1.below hb
        replace b2 := b2.below hb
        replace b3 := b3.below hb
        replace H0 := H0.trans (hb.mono H0.size)
        clear hb
        obtain ⟨cb20, cb21, cb22, cb23, cb24, cb25, cb26, cb27⟩ := b2.cells8
        obtain ⟨cb30, cb31, cb32⟩ := b3.cells3
        go_wp2_with fail
        clear cb20 cb21 cb22 cb23 cb24 cb25 cb26 cb27 cb30 cb31 cb32
        refine (rcmp_v hq k1.rq (by omega) (by omega) HB.out).mono ?_
        rintro e w2 ⟨rfl, hb⟩
        replace hq := hq.below hb
        replace k0 := k0.below hb
        replace k1 := k1.below hb
        replace b2 := b2.below hb
        replace b3 := b3.below hb
        replace H0 := H0.trans (hb.mono H0.size)
        clear hb
        obtain ⟨cb20, cb21, cb22, cb23, cb24, cb25, cb26, cb27⟩ := b2.cells8
        obtain ⟨cb30, cb31, cb32⟩ := b3.cells3
        go_wp2_with fail
        clear cb20 cb21 cb22 cb23 cb24 cb25 cb26 cb27 cb30 cb31 cb32
        go_returns
        exact ⟨by first | rfl | (simp only [plS, HA.out, HB.out]; rfl), H0⟩
      · have HA := Lib.hid ha
        clear ha
        have HB := Lib.hid hb
        clear hb
        go_enter Tryz.func50, Tryz.ntmps50
        go_wp2_with fail
        obtain ⟨W0, hW, b2, b3, hbW, hszW0⟩ := boxes2 w #[.bool s0, .slice A0 n0 c0, .slice D0 m0 e0, .bool s1, .slice A1 n1 c1, .slice D1 m1 e1, .bool false, .bool false] #[.bool s4, .slice A4 n4 c4, .slice D4 m4 e4] 32 28
        rw [hW]
        clear hW
        replace hq := hq.below hbW
        replace k0 := k0.below hbW
        replace k1 := k1.below hbW
        have H0 := hbW
        clear hbW
        obtain ⟨cb20, cb21, cb22, cb23, cb24, cb25, cb26, cb27⟩ := b2.cells8
        obtain ⟨cb30, cb31, cb32⟩ := b3.cells3
        go_wp2_with fail
        clear cb20 cb21 cb22 cb23 cb24 cb25 cb26 cb27 cb30 cb31 cb32
        refine (rcmp_v k0.rq hq (by omega) (by omega) HA.out).mono ?_
        rintro e w1 ⟨rfl, hb⟩
        replace hq := hq.below hb
        replace k0 := k0.below hb
        replace k1 := k1.below hb
        replace b2 := b2.below hb
        replace b3 := b3.below hb
        replace H0 := H0.trans (hb.mono H0.size)
        clear hb
        obtain ⟨cb20, cb21, cb22, cb23, cb24, cb25, cb26, cb27⟩ := b2.cells8
        obtain ⟨cb30, cb31, cb32⟩ := b3.cells3
        go_wp2_with fail
        clear cb20 cb21 cb22 cb23 cb24 cb25 cb26 cb27 cb30 cb31 cb32
        refine (rcmp_v hq k1.rq (by omega) (by omega) HB.out).mono ?_
        rintro e w2 ⟨rfl, hb⟩
        replace hq := hq.below hb
        replace k0 := k0.below hb
        replace k1 := k1.below hb
        replace b2 := b2.below hb
        replace b3 := b3.below hb
        replace H0 := H0.trans (hb.mono H0.size)
        clear hb
        obtain ⟨cb20, cb21, cb22, cb23, cb24, cb25, cb26, cb27⟩ := b2.cells8
        obtain ⟨cb30, cb31, cb32⟩ := b3.cells3
        go_wp2_with fail
        clear cb20 cb21 cb22 cb23 cb24 cb25 cb26 cb27 cb30 cb31 cb32
        go_returns
        exact ⟨by first | rfl | (simp only [plS, HA.out, HB.out]; rfl), H0⟩
      · have HA := Lib.hid ha
        clear ha
        have HB := Lib.hid hb
        clear hb
        go_enter Tryz.func50, Tryz.ntmps50
        go_wp2_with fail
        obtain ⟨W0, hW, b2, b3, hbW, hszW0⟩ := boxes2 w #[.bool s0, .slice A0 n0 c0, .slice D0 m0 e0, .bool s1, .slice A1 n1 c1, .slice D1 m1 e1, .bool false, .bool false] #[.bool s4, .slice A4 n4 c4, .slice D4 m4 e4] 32 28
        rw [hW]
        clear hW
        replace hq := hq.below hbW
        replace k0 := k0.below hbW
        replace k1 := k1.below hbW
        have H0 := hbW
        clear hbW
        obtain ⟨cb20, cb21, cb22, cb23, cb24, cb25, cb26, cb27⟩ := b2.cells8
        obtain ⟨cb30, cb31, cb32⟩ := b3.cells3
        go_wp2_with fail
        clear cb20 cb21 cb22 cb23 cb24 cb25 cb26 cb27 cb30 cb31 cb32
        refine (rcmp_v k0.rq hq (by omega) (by omega) HA.out).mono ?_
        rintro e w1 ⟨rfl, hb⟩
        replace hq := hq.below hb
        replace k0 := k0.below hb
        replace k1 := k1.below hb
        replace b2 := b2.below hb
        replace b3 := b3.below hb
        replace H0 := H0.trans (hb.mono H0.size)
        clear hb
        obtain ⟨cb20, cb21, cb22, cb23, cb24, cb25, cb26, cb27⟩ := b2.cells8
        obtain ⟨cb30, cb31, cb32⟩ := b3.cells3
        go_wp2_with fail
        clear cb20 cb21 cb22 cb23 cb24 cb25 cb26 cb27 cb30 cb31 cb32
        refine (rcmp_v hq k1.rq (by omega) (by omega) HB.out).mono ?_
        rintro e w2 ⟨rfl, hb⟩
        replace hq := hq.below hb
        replace k0 := k0.below hb
        replace k1 := k1.below hb
        replace b2 := b2.below hb
        replace b3 := b3.below hb
        replace H0 := H0.trans (hb.mono H0.size)
        clear hb
        obtain ⟨cb20, cb21, cb22, cb23, cb24, cb25, cb26, cb27⟩ := b2.cells8
        obtain ⟨cb30, cb31, cb32⟩ := b3.cells3
        go_wp2_with fail
        clear cb20 cb21 cb22 cb23 cb24 cb25 cb26 cb27 cb30 cb31 cb32
        go_returns
        exact ⟨by first | rfl | (simp only [plS, HA.out, HB.out]; rfl), H0⟩
    · rcases hb3 with rfl | rfl | rfl
      · have HA := Lib.hid ha
        clear ha
        have HB := Lib.hid hb
        clear hb
        go_enter Tryz.func50, Tryz.ntmps50
        go_wp2_with fail
        obtain ⟨W0, hW, b2, b3, hbW, hszW0⟩ := boxes2 w #[.bool s0, .slice A0 n0 c0, .slice D0 m0 e0, .bool s1, .slice A1 n1 c1, .slice D1 m1 e1, .bool false, .bool false] #[.bool s4, .slice A4 n4 c4, .slice D4 m4 e4] 32 28
        rw [hW]
        clear hW
        replace hq := hq.below hbW
        replace k0 := k0.below hbW
        replace k1 := k1.below hbW
        have H0 := hbW
        clear hbW
        obtain ⟨cb20, cb21, cb22, cb23, cb24, cb25, cb26, cb27⟩ := b2.cells8
        obtain ⟨cb30, cb31, cb32⟩ := b3.cells3
        go_wp2_with fail
        clear cb20 cb21 cb22 cb23 cb24 cb25 cb26 cb27 cb30 cb31 cb32
        refine (rcmp_v k0.rq hq (by omega) (by omega) HA.out).mono ?_
        rintro e w1 ⟨rfl, hb⟩
        replace hq := hq.below hb
        replace k0 := k0.below hb
        replace k1 := k1.below hb
        replace b2 := b2.below hb
        replace b3 := b3.below hb
        replace H0 := H0.trans (hb.mono H0.size)
        clear hb
        obtain ⟨cb20, cb21, cb22, cb23, cb24, cb25, cb26, cb27⟩ := b2.cells8
        obtain ⟨cb30, cb31, cb32⟩ := b3.cells3
        go_wp2_with fail
        clear cb20 cb21 cb22 cb23 cb24 cb25 cb26 cb27 cb30 cb31 cb32
        refine (rcmp_v hq k1.rq (by omega) (by omega) HB.out).mono ?_
        rintro e w2 ⟨rfl, hb⟩
        replace hq := hq.below hb
        replace k0 := k0.below hb
        replace k1 := k1.below hb
        replace b2 := b2.below hb
        replace b3 := b3.below hb
        replace H0 := H0.trans (hb.mono H0.size)
        clear hb
        obtain ⟨cb20, cb21, cb22, cb23, cb24, cb25, cb26, cb27⟩ := b2.cells8
        obtain ⟨cb30, cb31, cb32⟩ := b3.cells3
        go_wp2_with fail
        clear cb20 cb21 cb22 cb23 cb24 cb25 cb26 cb27 cb30 cb31 cb32
        go_returns
        exact ⟨by first | rfl | (simp only [plS, HA.out, HB.out]; rfl), H0⟩
      · have HA := Lib.hid ha
        clear ha
        have HB := Lib.hid hb
        clear hb
        go_enter Tryz.func50, Tryz.ntmps50
        go_wp2_with fail
        obtain ⟨W0, hW, b2, b3, hbW, hszW0⟩ := boxes2 w #[.bool s0, .slice A0 n0 c0, .slice D0 m0 e0, .bool s1, .slice A1 n1 c1, .slice D1 m1 e1, .bool false, .bool false] #[.bool s4, .slice A4 n4 c4, .slice D4 m4 e4] 32 28
        rw [hW]
        clear hW
        replace hq := hq.below hbW
        replace k0 := k0.below hbW
        replace k1 := k1.below hbW
        have H0 := hbW
        clear hbW
        obtain ⟨cb20, cb21, cb22, cb23, cb24, cb25, cb26, cb27⟩ := b2.cells8
        obtain ⟨cb30, cb31, cb32⟩ := b3.cells3
        go_wp2_with fail
        clear cb20 cb21 cb22 cb23 cb24 cb25 cb26 cb27 cb30 cb31 cb32
        refine (rcmp_v k0.rq hq (by omega) (by omega) HA.out).mono ?_
        rintro e w1 ⟨rfl, hb⟩
        replace hq := hq.below hb
        replace k0 := k0.below hb
        replace k1 := k1.below hb
        replace b2 := b2.below hb
        replace b3 := b3.below hb
        replace H0 := H0.trans (hb.mono H0.size)
        clear hb
        obtain ⟨cb20, cb21, cb22, cb23, cb24, cb25, cb26, cb27⟩ := b2.cells8
        obtain ⟨cb30, cb31, cb32⟩ := b3.cells3
        go_wp2_with fail
        clear cb20 cb21 cb22 cb23 cb24 cb25 cb26 cb27 cb30 cb31 cb32
        refine (rcmp_v hq k1.rq (by omega) (by omega) HB.out).mono ?_
        rintro e w2 ⟨rfl, hb⟩
        replace hq := hq.below hb
        replace k0 := k0.below hb
        replace k1 := k1.below hb
        replace b2 := b2.below hb
        replace b3 := b3.below hb
        replace H0 := H0.trans (hb.mono H0.size)
        clear hb
        obtain ⟨cb20, cb21, cb22, cb23, cb24, cb25, cb26, cb27⟩ := b2.cells8
        obtain ⟨cb30, cb31, cb32⟩ := b3.cells3
        go_wp2_with fail
        clear cb20 cb21 cb22 cb23 cb24 cb25 cb26 cb27 cb30 cb31 cb32
        go_returns
        exact ⟨by first | rfl | (simp only [plS, HA.out, HB.out]; rfl), H0⟩
      · have HA := Lib.hid ha
        clear ha
        have HB := Lib.hid hb
        clear hb
        go_enter Tryz.func50, Tryz.ntmps50
        go_wp2_with fail
        obtain ⟨W0, hW, b2, b3, hbW, hszW0⟩ := boxes2 w #[.bool s0, .slice A0 n0 c0, .slice D0 m0 e0, .bool s1, .slice A1 n1 c1, .slice D1 m1 e1, .bool false, .bool false] #[.bool s4, .slice A4 n4 c4, .slice D4 m4 e4] 32 28
        rw [hW]
        clear hW
        replace hq := hq.below hbW
        replace k0 := k0.below hbW
        replace k1 := k1.below hbW
        have H0 := hbW
        clear hbW
        obtain ⟨cb20, cb21, cb22, cb23, cb24, cb25, cb26, cb27⟩ := b2.cells8
        obtain ⟨cb30, cb31, cb32⟩ := b3.cells3
        go_wp2_with fail
        clear cb20 cb21 cb22 cb23 cb24 cb25 cb26 cb27 cb30 cb31 cb32
        refine (rcmp_v k0.rq hq (by omega) (by omega) HA.out).mono ?_
        rintro e w1 ⟨rfl, hb⟩
        replace hq := hq.below hb
        replace k0 := k0.below hb
        replace k1 := k1.below hb
        replace b2 := b2.below hb
        replace b3 := b3.below hb
        replace H0 := H0.trans (hb.mono H0.size)
        clear hb
        obtain ⟨cb20, cb21, cb22, cb23, cb24, cb25, cb26, cb27⟩ := b2.cells8
        obtain ⟨cb30, cb31, cb32⟩ := b3.cells3
        go_wp2_with fail
        clear cb20 cb21 cb22 cb23 cb24 cb25 cb26 cb27 cb30 cb31 cb32
        refine (rcmp_v hq k1.rq (by omega) (by omega) HB.out).mono ?_
        rintro e w2 ⟨rfl, hb⟩
        replace hq := hq.below hb
        replace k0 := k0.below hb
        replace k1 := k1.below hb
        replace b2 := b2.below hb
        replace b3 := b3.below hb
        replace H0 := H0.trans (hb.mono H0.size)
        clear hb
        obtain ⟨cb20, cb21, cb22, cb23, cb24, cb25, cb26, cb27⟩ := b2.cells8
        obtain ⟨cb30, cb31, cb32⟩ := b3.cells3
        go_wp2_with fail
        clear cb20 cb21 cb22 cb23 cb24 cb25 cb26 cb27 cb30 cb31 cb32
        go_returns
        exact ⟨by first | rfl | (simp only [plS, HA.out, HB.out]; rfl), H0⟩
    · rcases hb3 with rfl | rfl | rfl
      · have HA := Lib.hid ha
        clear ha
        have HB := Lib.hid hb
        clear hb
        go_enter Tryz.func50, Tryz.ntmps50
        go_wp2_with fail
        obtain ⟨W0, hW, b2, b3, hbW, hszW0⟩ := boxes2 w #[.bool s0, .slice A0 n0 c0, .slice D0 m0 e0, .bool s1, .slice A1 n1 c1, .slice D1 m1 e1, .bool false, .bool false] #[.bool s4, .slice A4 n4 c4, .slice D4 m4 e4] 32 28
        rw [hW]
        clear hW
        replace hq := hq.below hbW
        replace k0 := k0.below hbW
        replace k1 := k1.below hbW
        have H0 := hbW
        clear hbW
        obtain ⟨cb20, cb21, cb22, cb23, cb24, cb25, cb26, cb27⟩ := b2.cells8
        obtain ⟨cb30, cb31, cb32⟩ := b3.cells3
        go_wp2_with fail
        clear cb20 cb21 cb22 cb23 cb24 cb25 cb26 cb27 cb30 cb31 cb32
        refine (rcmp_v k0.rq hq (by omega) (by omega) HA.out).mono ?_
        rintro e w1 ⟨rfl, hb⟩
        replace hq := hq.below hb
        replace k0 := k0.below hb
        replace k1 := k1.below hb
        replace b2 := b2.below hb
        replace b3 := b3.below hb
        replace H0 := H0.trans (hb.mono H0.size)
        clear hb
        obtain ⟨cb20, cb21, cb22, cb23, cb24, cb25, cb26, cb27⟩ := b2.cells8
        obtain ⟨cb30, cb31, cb32⟩ := b3.cells3
        go_wp2_with fail
        clear cb20 cb21 cb22 cb23 cb24 cb25 cb26 cb27 cb30 cb31 cb32
        refine (rcmp_v hq k1.rq (by omega) (by omega) HB.out).mono ?_
        rintro e w2 ⟨rfl, hb⟩
        replace hq := hq.below hb
        replace k0 := k0.below hb
        replace k1 := k1.below hb
        replace b2 := b2.below hb
        replace b3 := b3.below hb
        replace H0 := H0.trans (hb.mono H0.size)
        clear hb
        obtain ⟨cb20, cb21, cb22, cb23, cb24, cb25, cb26, cb27⟩ := b2.cells8
        obtain ⟨cb30, cb31, cb32⟩ := b3.cells3
        go_wp2_with fail
        clear cb20 cb21 cb22 cb23 cb24 cb25 cb26 cb27 cb30 cb31 cb32
        go_returns
        exact ⟨by first | rfl | (simp only [plS, HA.out, HB.out]; rfl), H0⟩
      · have HA := Lib.hid ha
        clear ha
        have HB := Lib.hid hb
        clear hb
        go_enter Tryz.func50, Tryz.ntmps50
        go_wp2_with fail
        obtain ⟨W0, hW, b2, b3, hbW, hszW0⟩ := boxes2 w #[.bool s0, .slice A0 n0 c0, .slice D0 m0 e0, .bool s1, .slice A1 n1 c1, .slice D1 m1 e1, .bool false, .bool false] #[.bool s4, .slice A4 n4 c4, .slice D4 m4 e4] 32 28
        rw [hW]
        clear hW
        replace hq := hq.below hbW
        replace k0 := k0.below hbW
        replace k1 := k1.below hbW
        have H0 := hbW
        clear hbW
        obtain ⟨cb20, cb21, cb22, cb23, cb24, cb25, cb26, cb27⟩ := b2.cells8
        obtain ⟨cb30, cb31, cb32⟩ := b3.cells3
        go_wp2_with fail
        clear cb20 cb21 cb22 cb23 cb24 cb25 cb26 cb27 cb30 cb31 cb32
        refine (rcmp_v k0.rq hq (by omega) (by omega) HA.out).mono ?_
        rintro e w1 ⟨rfl, hb⟩
        replace hq := hq.below hb
        replace k0 := k0.below hb
        replace k1 := k1.below hb
        replace b2 := b2.below hb
        replace b3 := b3.below hb
        replace H0 := H0.trans (hb.mono H0.size)
        clear hb
        obtain ⟨cb20, cb21, cb22, cb23, cb24, cb25, cb26, cb27⟩ := b2.cells8
        obtain ⟨cb30, cb31, cb32⟩ := b3.cells3
        go_wp2_with fail
        clear cb20 cb21 cb22 cb23 cb24 cb25 cb26 cb27 cb30 cb31 cb32
        refine (rcmp_v hq k1.rq (by omega) (by omega) HB.out).mono ?_
        rintro e w2 ⟨rfl, hb⟩
        replace hq := hq.below hb
        replace k0 := k0.below hb
        replace k1 := k1.below hb
        replace b2 := b2.below hb
        replace b3 := b3.below hb
        replace H0 := H0.trans (hb.mono H0.size)
        clear hb
        obtain ⟨cb20, cb21, cb22, cb23, cb24, cb25, cb26, cb27⟩ := b2.cells8
        obtain ⟨cb30, cb31, cb32⟩ := b3.cells3
        go_wp2_with fail
        clear cb20 cb21 cb22 cb23 cb24 cb25 cb26 cb27 cb30 cb31 cb32
        go_returns
        exact ⟨by first | rfl | (simp only [plS, HA.out, HB.out]; rfl), H0⟩
      · have HA := Lib.hid ha
        clear ha
        have HB := Lib.hid hb
        clear hb
        go_enter Tryz.func50, Tryz.ntmps50
        go_wp2_with fail
        obtain ⟨W0, hW, b2, b3, hbW, hszW0⟩ := boxes2 w #[.bool s0, .slice A0 n0 c0, .slice D0 m0 e0, .bool s1, .slice A1 n1 c1, .slice D1 m1 e1, .bool false, .bool false] #[.bool s4, .slice A4 n4 c4, .slice D4 m4 e4] 32 28
        rw [hW]
        clear hW
        replace hq := hq.below hbW
        replace k0 := k0.below hbW
        replace k1 := k1.below hbW
        have H0 := hbW
        clear hbW
        obtain ⟨cb20, cb21, cb22, cb23, cb24, cb25, cb26, cb27⟩ := b2.cells8
        obtain ⟨cb30, cb31, cb32⟩ := b3.cells3
        go_wp2_with fail
        clear cb20 cb21 cb22 cb23 cb24 cb25 cb26 cb27 cb30 cb31 cb32
        refine (rcmp_v k0.rq hq (by omega) (by omega) HA.out).mono ?_
        rintro e w1 ⟨rfl, hb⟩
        replace hq := hq.below hb
        replace k0 := k0.below hb
        replace k1 := k1.below hb
        replace b2 := b2.below hb
        replace b3 := b3.below hb
        replace H0 := H0.trans (hb.mono H0.size)
        clear hb
        obtain ⟨cb20, cb21, cb22, cb23, cb24, cb25, cb26, cb27⟩ := b2.cells8
        obtain ⟨cb30, cb31, cb32⟩ := b3.cells3
        go_wp2_with fail
        clear cb20 cb21 cb22 cb23 cb24 cb25 cb26 cb27 cb30 cb31 cb32
        refine (rcmp_v hq k1.rq (by omega) (by omega) HB.out).mono ?_
        rintro e w2 ⟨rfl, hb⟩
        replace hq := hq.below hb
        replace k0 := k0.below hb
        replace k1 := k1.below hb
        replace b2 := b2.below hb
        replace b3 := b3.below hb
        replace H0 := H0.trans (hb.mono H0.size)
        clear hb
        obtain ⟨cb20, cb21, cb22, cb23, cb24, cb25, cb26, cb27⟩ := b2.cells8
        obtain ⟨cb30, cb31, cb32⟩ := b3.cells3
        go_wp2_with fail
        clear cb20 cb21 cb22 cb23 cb24 cb25 cb26 cb27 cb30 cb31 cb32
        go_returns
        exact ⟨by first | rfl | (simp only [plS, HA.out, HB.out]; rfl), H0⟩
set_option maxRecDepth 100000 in
set_option maxHeartbeats 4000000 in
theorem pclass_v {v : Value} {q : Rat} (hS : SpS w L v l) (hok : OkS l) (hsep : SepS l) (hn : l.length ≤ 4096) (hq : RQ w s4 (.slice A4 n4 c4) (.slice D4 m4 e4) q L0) (hL : L ≤ 1000) (hL0 : L0 ≤ 1000) :
    Calls Tryz.prog 14 #[v, .agg #[.bool s4, .slice A4 n4 c4, .slice D4 m4 e4]] w fun e w' => e = .returned (.tuple #[.int .i64 (clsL l q), .nilIface]) ∧ Below w.heap.size w w' := by
  have HS := Lib.hid hS
  obtain ⟨A, c, rfl, hc1, hc2⟩ := hS.form
  unfold maxLen at hc2
  clear hS
  go_enter Tryz.func14, Tryz.ntmps14
  go_upto_region 1 with fail
  obtain ⟨V0, hV, b3, hbV, hszV⟩ := boxes1 w #[.bool s4, .slice A4 n4 c4, .slice D4 m4 e4] 28
  rw [hV]
  clear hV hszV
  have hq' := hq.below hbV
  go_wp2_with fail
  refine (valid_v (HS.out.below hbV) hok hsep hn (by omega)).mono ?_
  rintro e w1 ⟨rfl, hb⟩
  replace b3 := b3.below hb
  replace hbV := hbV.trans (hb.mono hbV.size)
  clear hb hq' hok hsep
  go_wp2_with fail
  go_loopw [14] (fun t14 wr => ∃ i : Nat, i ≤ l.length ∧ t14 = .int .i64 (i : Int) ∧ Box wr w.heap.size #[.bool s4, .slice A4 n4 c4, .slice D4 m4 e4] 28 ∧ clsL l q = clsL (l.drop i) q ∧ Below w.heap.size w wr) (fun t14 _ => l.length - (intOf t14).toNat)
  case atStart => exact ⟨0, Nat.zero_le _, rfl, b3, rfl, hbV⟩
  case round =>
    clear b3 hbV
    obtain ⟨i, hi, rfl, b3, hcl, H0⟩ := hrel
    have HCL := Lib.hid hcl
    clear hcl
    by_cases hlt : i < l.length
    · obtain ⟨sp, hsp⟩ : ∃ s, l[i]? = some s := ⟨_, List.getElem?_eq_getElem hlt⟩
      obtain ⟨g, o, s0, A0, n0, c0, D0, m0, e0, s1, A1, n1, c1, D1, m1, e1, f0, h0, rfl, cc0, cc1, cc2, cc3, cc4, cc5, cc6, cc7, y0, y1⟩ := (HS.out.below H0).elem hsp
      have hsp' : l[i]? = some sp := hsp
      have HSP := Lib.hid hsp'
      clear hsp hsp'
      obtain ⟨W0, hW, b6, hbW, hsz⟩ := boxes1 wr #[.bool s0, .slice A0 n0 c0, .slice D0 m0 e0, .bool s1, .slice A1 n1 c1, .slice D1 m1 e1, .bool f0, .bool h0] 32
      clear hsz
      have kq := hq.below (H0.trans (hbW.mono H0.size))
      replace b3 := b3.below hbW
      replace y0 := y0.below hbW
      replace y1 := y1.below hbW
      replace H0 := H0.trans (hbW.mono H0.size)
      obtain ⟨x0, x1, x2, x3, x4, x5, x6, x7⟩ := b6.cells8
      obtain ⟨z0, z1, z2⟩ := b3.cells3
      go_wp2_with fail
      clear hW hbW b6 x0 cc0 x1 cc1 x2 cc2 x3 cc3 x4 cc4 x5 cc5 x6 cc6 x7 cc7 z0 z1 z2
      obtain ⟨k, hk⟩ : ∃ k, plS sp q = k := ⟨_, rfl⟩
      have hk3 : k = -1 ∨ k = 0 ∨ k = 1 := by rw [← hk]; exact pl_tri sp q
      have HK := Lib.hid hk
      clear hk
      refine (place_v y0 y1 kq hL hL0).mono ?_
      rintro e w5 ⟨rfl, hb⟩
      replace b3 := b3.below hb
      replace H0 := H0.trans (hb.mono H0.size)
      clear hb y0 y1 kq
      rw [show plS ⟨sp.lo, sp.hi⟩ q = k from HK.out]
      rcases hk3 with rfl | rfl | rfl
      · go_wp2_with fail
        go_returns
        exact ⟨by rw [show clsL l q = 2 from by rw [HCL.out, clsL_some HSP.out (cls_in HK.out)]]; rfl, H0⟩
      · go_wp2_with fail
        go_returns
        exact ⟨by rw [show clsL l q = 1 from by rw [HCL.out, clsL_some HSP.out (cls_on HK.out)]]; rfl, H0⟩
      · go_wp2_with fail
        go_roundw
        case rel => exact ⟨i + 1, by omega, by go_num, b3, by rw [HCL.out, clsL_none HSP.out (cls_out HK.out)], H0⟩
        case measure => simp [intOf]; omega
    · obtain rfl : i = l.length := by omega
      go_wp2_with fail
      go_returns
      exact ⟨by rw [show clsL l q = 0 from by rw [HCL.out, List.drop_length]; rfl]; rfl, H0⟩
end
end Go.Proofs.YtpgkkkodniiilaaGreatDoor
