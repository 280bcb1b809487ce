/-
  The reference's Class and in.
-/
import Derived.Test.YtpgkkkodniiilaaGreatDoorWSq
import Derived.Test.YtpgkkkodniiilaaGreatDoorWSpX
import Derived.IntWalk
import Derived.Deep.Cut
namespace Go.Proofs.YtpgkkkodniiilaaGreatDoor
open Go.RowKit
section
variable {f0 h0 f1 h1 f2 h2 f3 h3 f4 h4 f5 h5 f6 h6 f7 h7 f8 h8 f9 h9 f10 h10 f11 h11 : Bool} {A0 A1 A4 D0 D1 D4 : Option Addr} {n0 n1 n4 c0 c1 c4 m0 m1 m4 e0 e1 e4 : Nat} {s0 s1 s4 : Bool} {q0 q1 q2 q3 q4 q5 q6 q7 : Rat} {z0 z1 z2 z3 z4 z5 z6 z7 z8 z9 z10 z11 : Int} {L L0 L1 x y : Nat} {k : Int} {b : Bool} {w : World}
variable {o0 o1 o2 o3 : Option Rat} {l l' : List Sp}
/-- The side of a number to an end below (1: above it, or there is none), and to one above. -/
def loS (o : Option Rat) (x : Rat) : Int := match o with | none => 1 | some a => rsg (x - a)
def hiS (o : Option Rat) (x : Rat) : Int := match o with | none => -1 | some a => rsg (x - a)
/-- What Class says of one span: 2, 1 or none. -/
def clsS (s : Sp) (x : Rat) : Option Int := if 0 < loS s.lo x ∧ hiS s.hi x < 0 then some 2 else if loS s.lo x = 0 ∧ hiS s.hi x ≤ 0 ∨ hiS s.hi x = 0 ∧ 0 ≤ loS s.lo x then some 1 else none
/-- The first span that says something. -/
def clsL : List Sp → Rat → Int
  | [], _ => 0
  | s :: l, x => match clsS s x with | some k => k | none => clsL l x
theorem clsL_drop {l : List Sp} {i : Nat} {s : Sp} {x : Rat} (h : l[i]? = some s) : clsL (l.drop i) x = match clsS s x with | some k => k | none => clsL (l.drop (i + 1)) x := by
  have hi := (List.getElem?_eq_some_iff.1 h).1
  rw [List.drop_eq_getElem_cons hi, (List.getElem?_eq_some_iff.1 h).2]; rfl
theorem clsL_some {l : List Sp} {i : Nat} {s : Sp} {x : Rat} {k : Int} (h : l[i]? = some s) (hc : clsS s x = some k) : clsL (l.drop i) x = k := by rw [clsL_drop h, hc]
theorem clsL_none {l : List Sp} {i : Nat} {s : Sp} {x : Rat} (h : l[i]? = some s) (hc : clsS s x = none) : clsL (l.drop i) x = clsL (l.drop (i + 1)) x := by rw [clsL_drop h, hc]
set_option maxRecDepth 100000 in
set_option maxHeartbeats 4000000 in
theorem class_v {v : Value} {q : Rat} (hS : SrS w L v l) (hq : PQ w s4 (.slice A4 n4 c4) (.slice D4 m4 e4) q L0) (hL : L ≤ 100) (hL0 : L0 ≤ 100) :
    Calls Tryz.prog 19 #[v, .agg #[.bool s4, .slice A4 n4 c4, .slice D4 m4 e4]] w fun e w' => e = .returned (.int .i64 (clsL l q)) ∧ Below w.heap.size w w' := by
  obtain ⟨A, c, rfl, hc1, hc2⟩ := hS.form
  unfold maxLen at hc2
  go_enter Tryz.func19, Tryz.ntmps19
  go_upto_region 1 with fail
  obtain ⟨V0, hV, b3, hbV, hszV⟩ := boxes1 w #[.bool s4, .slice A4 n4 c4, .slice D4 m4 e4] 37
  rw [hV]
  clear hV hszV
  go_wp2_with fail
  go_loopw [11] (fun t11 wr => ∃ i : Nat, i ≤ l.length ∧ t11 = .int .i64 i ∧ Box wr w.heap.size #[.bool s4, .slice A4 n4 c4, .slice D4 m4 e4] 37 ∧ clsL l q = clsL (l.drop i) q ∧ Below w.heap.size w wr) (fun t11 _ => l.length - (intOf t11).toNat)
  case atStart => exact ⟨0, Nat.zero_le _, rfl, b3, rfl, hbV⟩
  case round =>
    clear b3 hbV
    obtain ⟨i, hi, rfl, b3, hcl, H0⟩ := hrel
    have HCL := Lib.hid hcl
    clear hcl
    by_cases hlt : i < l.length
    · obtain ⟨sp, hsp⟩ : ∃ s, l[i]? = some s := ⟨_, List.getElem?_eq_getElem hlt⟩
      obtain ⟨g, o, s0, A0, n0, c0, D0, m0, e0, s1, A1, n1, c1, D1, m1, e1, f0, h0, rfl, cc0, cc1, cc2, cc3, cc4, cc5, cc6, cc7, y0, y1⟩ := (hS.below H0).elem hsp
      have hsp' : l[i]? = some sp := hsp
      have HSP := Lib.hid hsp'
      clear hS hsp hsp'
      obtain ⟨W0, hW, b6, hbW, hsz⟩ := boxes1 wr #[.bool s0, .slice A0 n0 c0, .slice D0 m0 e0, .bool s1, .slice A1 n1 c1, .slice D1 m1 e1, .bool f0, .bool h0] 39
      clear hsz
      have kq := hq.below (H0.trans (hbW.mono H0.size))
      replace b3 := b3.below hbW
      replace y0 := y0.below hbW
      replace y1 := y1.below hbW
      replace H0 := H0.trans (hbW.mono H0.size)
      obtain ⟨x0, x1, x2, x3, x4, x5, x6, x7⟩ := b6.cells8
      go_upto_if 17 with fail
      clear hW hbW x0 cc0 x1 cc1 x2 cc2 x3 cc3 x4 cc4 x5 cc5 x6 cc6 x7 cc7
      rcases hlo : sp.lo with _ | p <;> rcases hhi : sp.hi with _ | p'
      · obtain ⟨elo, ehi⟩ : sp.lo = none ∧ sp.hi = none := ⟨by assumption, by assumption⟩
        obtain rfl := y0.no elo
        obtain rfl := y1.no ehi
        clear y0 y1
        have HLO : Hid (loS sp.lo q = 1) := Lib.hid (by rw [elo]; rfl)
        have HHI : Hid (hiS sp.hi q = -1) := Lib.hid (by rw [ehi]; rfl)
        clear elo ehi
        obtain ⟨x0, x1, x2, x3, x4, x5, x6, x7⟩ := b6.cells8
        obtain ⟨z0, z1, z2⟩ := b3.cells3
        go_upto_region 9 with fail
        clear x0 x1 x2 x3 x4 x5 x6 x7 z0 z1 z2
        have HC : Hid (clsS sp q = some 2) := Lib.hid (by unfold clsS; rw [HLO.out, HHI.out]; decide)
        go_wp2_with fail
        go_ret
        exact ⟨by rw [show clsL l q = 2 from by rw [HCL.out, clsL_some HSP.out HC.out]]; rfl, H0⟩
      · obtain ⟨elo, ehi⟩ : sp.lo = none ∧ sp.hi = some p' := ⟨by assumption, by assumption⟩
        obtain rfl := y0.no elo
        obtain ⟨rfl, j1⟩ := y1.yes ehi
        clear y0 y1
        have HLO : Hid (loS sp.lo q = 1) := Lib.hid (by rw [elo]; rfl)
        obtain ⟨b, hb9⟩ : ∃ k, rsg (q - p') = k := ⟨_, rfl⟩
        have hb3 : b = -1 ∨ b = 0 ∨ b = 1 := by rw [← hb9]; rcases rsg_tri q p' with h9 | h9 | h9 <;> omega
        have HB := Lib.hid hb9
        have HHI : Hid (hiS sp.hi q = b) := Lib.hid (by rw [ehi]; exact hb9)
        clear hb9
        clear elo ehi
        obtain ⟨x0, x1, x2, x3, x4, x5, x6, x7⟩ := b6.cells8
        obtain ⟨z0, z1, z2⟩ := b3.cells3
        go_wp2_with fail
        clear x0 x1 x2 x3 x4 x5 x6 x7 z0 z1 z2
        refine (nqc_v kq j1 hL0 hL HB.out).mono ?_
        rintro e w6 ⟨rfl, hb⟩
        replace kq := kq.below hb
        replace b6 := b6.below hb
        replace b3 := b3.below hb
        replace H0 := H0.trans (hb.mono H0.size)
        clear hb
        obtain ⟨x0, x1, x2, x3, x4, x5, x6, x7⟩ := b6.cells8
        obtain ⟨z0, z1, z2⟩ := b3.cells3
        go_upto_region 9 with fail
        clear x0 x1 x2 x3 x4 x5 x6 x7 z0 z1 z2
        rcases hb3 with rfl | rfl | rfl
        · have HC : Hid (clsS sp q = some 2) := Lib.hid (by unfold clsS; rw [HLO.out, HHI.out]; decide)
          go_wp2_with fail
          go_ret
          exact ⟨by rw [show clsL l q = 2 from by rw [HCL.out, clsL_some HSP.out HC.out]]; rfl, H0⟩
        · have HC : Hid (clsS sp q = some 1) := Lib.hid (by unfold clsS; rw [HLO.out, HHI.out]; decide)
          go_wp2_with fail
          go_ret
          exact ⟨by rw [show clsL l q = 1 from by rw [HCL.out, clsL_some HSP.out HC.out]]; rfl, H0⟩
        · have HC : Hid (clsS sp q = none) := Lib.hid (by unfold clsS; rw [HLO.out, HHI.out]; decide)
          go_wp2_with fail
          go_roundw
          case rel => exact ⟨i + 1, by omega, by go_num, b3, by rw [HCL.out, clsL_none HSP.out HC.out], H0⟩
          case measure => simp [intOf]; omega
      · obtain ⟨elo, ehi⟩ : sp.lo = some p ∧ sp.hi = none := ⟨by assumption, by assumption⟩
        obtain ⟨rfl, j0⟩ := y0.yes elo
        obtain rfl := y1.no ehi
        clear y0 y1
        obtain ⟨a, ha⟩ : ∃ k, rsg (q - p) = k := ⟨_, rfl⟩
        have ha3 : a = -1 ∨ a = 0 ∨ a = 1 := by rw [← ha]; rcases rsg_tri q p with h9 | h9 | h9 <;> omega
        have HA := Lib.hid ha
        have HLO : Hid (loS sp.lo q = a) := Lib.hid (by rw [elo]; exact ha)
        clear ha
        have HHI : Hid (hiS sp.hi q = -1) := Lib.hid (by rw [ehi]; rfl)
        clear elo ehi
        obtain ⟨x0, x1, x2, x3, x4, x5, x6, x7⟩ := b6.cells8
        obtain ⟨z0, z1, z2⟩ := b3.cells3
        go_wp2_with fail
        clear x0 x1 x2 x3 x4 x5 x6 x7 z0 z1 z2
        refine (nqc_v kq j0 hL0 hL HA.out).mono ?_
        rintro e w5 ⟨rfl, hb⟩
        replace kq := kq.below hb
        replace b6 := b6.below hb
        replace b3 := b3.below hb
        replace H0 := H0.trans (hb.mono H0.size)
        clear hb
        obtain ⟨x0, x1, x2, x3, x4, x5, x6, x7⟩ := b6.cells8
        obtain ⟨z0, z1, z2⟩ := b3.cells3
        go_upto_region 9 with fail
        clear x0 x1 x2 x3 x4 x5 x6 x7 z0 z1 z2
        rcases ha3 with rfl | rfl | rfl
        · have HC : Hid (clsS sp q = none) := Lib.hid (by unfold clsS; rw [HLO.out, HHI.out]; decide)
          go_wp2_with fail
          go_roundw
          case rel => exact ⟨i + 1, by omega, by go_num, b3, by rw [HCL.out, clsL_none HSP.out HC.out], H0⟩
          case measure => simp [intOf]; omega
        · have HC : Hid (clsS sp q = some 1) := Lib.hid (by unfold clsS; rw [HLO.out, HHI.out]; decide)
          go_wp2_with fail
          go_ret
          exact ⟨by rw [show clsL l q = 1 from by rw [HCL.out, clsL_some HSP.out HC.out]]; rfl, H0⟩
        · have HC : Hid (clsS sp q = some 2) := Lib.hid (by unfold clsS; rw [HLO.out, HHI.out]; decide)
          go_wp2_with fail
          go_ret
          exact ⟨by rw [show clsL l q = 2 from by rw [HCL.out, clsL_some HSP.out HC.out]]; rfl, H0⟩
      · obtain ⟨elo, ehi⟩ : sp.lo = some p ∧ sp.hi = some p' := ⟨by assumption, by assumption⟩
        obtain ⟨rfl, j0⟩ := y0.yes elo
        obtain ⟨rfl, j1⟩ := y1.yes ehi
        clear y0 y1
        obtain ⟨a, ha⟩ : ∃ k, rsg (q - p) = k := ⟨_, rfl⟩
        have ha3 : a = -1 ∨ a = 0 ∨ a = 1 := by rw [← ha]; rcases rsg_tri q p with h9 | h9 | h9 <;> omega
        have HA := Lib.hid ha
        have HLO : Hid (loS sp.lo q = a) := Lib.hid (by rw [elo]; exact ha)
        clear ha
        obtain ⟨b, hb9⟩ : ∃ k, rsg (q - p') = k := ⟨_, rfl⟩
        have hb3 : b = -1 ∨ b = 0 ∨ b = 1 := by rw [← hb9]; rcases rsg_tri q p' with h9 | h9 | h9 <;> omega
        have HB := Lib.hid hb9
        have HHI : Hid (hiS sp.hi q = b) := Lib.hid (by rw [ehi]; exact hb9)
        clear hb9
        clear elo ehi
        obtain ⟨x0, x1, x2, x3, x4, x5, x6, x7⟩ := b6.cells8
        obtain ⟨z0, z1, z2⟩ := b3.cells3
        go_wp2_with fail
        clear x0 x1 x2 x3 x4 x5 x6 x7 z0 z1 z2
        refine (nqc_v kq j0 hL0 hL HA.out).mono ?_
        rintro e w5 ⟨rfl, hb⟩
        replace kq := kq.below hb
        replace b6 := b6.below hb
        replace b3 := b3.below hb
        replace j1 := j1.below hb
        replace H0 := H0.trans (hb.mono H0.size)
        clear hb
        obtain ⟨x0, x1, x2, x3, x4, x5, x6, x7⟩ := b6.cells8
        obtain ⟨z0, z1, z2⟩ := b3.cells3
        go_wp2_with fail
        clear x0 x1 x2 x3 x4 x5 x6 x7 z0 z1 z2
        refine (nqc_v kq j1 hL0 hL HB.out).mono ?_
        rintro e w6 ⟨rfl, hb⟩
        replace kq := kq.below hb
        replace b6 := b6.below hb
        replace b3 := b3.below hb
        replace H0 := H0.trans (hb.mono H0.size)
        clear hb
        obtain ⟨x0, x1, x2, x3, x4, x5, x6, x7⟩ := b6.cells8
        obtain ⟨z0, z1, z2⟩ := b3.cells3
        go_upto_region 9 with fail
        clear x0 x1 x2 x3 x4 x5 x6 x7 z0 z1 z2
        rcases ha3 with rfl | rfl | rfl
        · rcases hb3 with rfl | rfl | rfl
          · have HC : Hid (clsS sp q = none) := Lib.hid (by unfold clsS; rw [HLO.out, HHI.out]; decide)
            go_wp2_with fail
            go_roundw
            case rel => exact ⟨i + 1, by omega, by go_num, b3, by rw [HCL.out, clsL_none HSP.out HC.out], H0⟩
            case measure => simp [intOf]; omega
          · have HC : Hid (clsS sp q = none) := Lib.hid (by unfold clsS; rw [HLO.out, HHI.out]; decide)
            go_wp2_with fail
            go_roundw
            case rel => exact ⟨i + 1, by omega, by go_num, b3, by rw [HCL.out, clsL_none HSP.out HC.out], H0⟩
            case measure => simp [intOf]; omega
          · have HC : Hid (clsS sp q = none) := Lib.hid (by unfold clsS; rw [HLO.out, HHI.out]; decide)
            go_wp2_with fail
            go_roundw
            case rel => exact ⟨i + 1, by omega, by go_num, b3, by rw [HCL.out, clsL_none HSP.out HC.out], H0⟩
            case measure => simp [intOf]; omega
        · rcases hb3 with rfl | rfl | rfl
          · have HC : Hid (clsS sp q = some 1) := Lib.hid (by unfold clsS; rw [HLO.out, HHI.out]; decide)
            go_wp2_with fail
            go_ret
            exact ⟨by rw [show clsL l q = 1 from by rw [HCL.out, clsL_some HSP.out HC.out]]; rfl, H0⟩
          · have HC : Hid (clsS sp q = some 1) := Lib.hid (by unfold clsS; rw [HLO.out, HHI.out]; decide)
            go_wp2_with fail
            go_ret
            exact ⟨by rw [show clsL l q = 1 from by rw [HCL.out, clsL_some HSP.out HC.out]]; rfl, H0⟩
          · have HC : Hid (clsS sp q = none) := Lib.hid (by unfold clsS; rw [HLO.out, HHI.out]; decide)
            go_wp2_with fail
            go_roundw
            case rel => exact ⟨i + 1, by omega, by go_num, b3, by rw [HCL.out, clsL_none HSP.out HC.out], H0⟩
            case measure => simp [intOf]; omega
        · rcases hb3 with rfl | rfl | rfl
          · have HC : Hid (clsS sp q = some 2) := Lib.hid (by unfold clsS; rw [HLO.out, HHI.out]; decide)
            go_wp2_with fail
            go_ret
            exact ⟨by rw [show clsL l q = 2 from by rw [HCL.out, clsL_some HSP.out HC.out]]; rfl, H0⟩
          · have HC : Hid (clsS sp q = some 1) := Lib.hid (by unfold clsS; rw [HLO.out, HHI.out]; decide)
            go_wp2_with fail
            go_ret
            exact ⟨by rw [show clsL l q = 1 from by rw [HCL.out, clsL_some HSP.out HC.out]]; rfl, H0⟩
          · have HC : Hid (clsS sp q = none) := Lib.hid (by unfold clsS; rw [HLO.out, HHI.out]; decide)
            go_wp2_with fail
            go_roundw
            case rel => exact ⟨i + 1, by omega, by go_num, b3, by rw [HCL.out, clsL_none HSP.out HC.out], H0⟩
            case measure => simp [intOf]; omega
    · obtain rfl : i = l.length := by omega
      clear hS
      go_wp2_with fail
      go_ret
      exact ⟨by rw [show clsL l q = 0 from by rw [HCL.out, List.drop_length]; rfl]; rfl, H0⟩
set_option maxRecDepth 100000 in
set_option maxHeartbeats 4000000 in
theorem in_v {v : Value} {q : Rat} (hS : SrS w L v l) (hq : PQ w s4 (.slice A4 n4 c4) (.slice D4 m4 e4) q L0) (hL : L ≤ 100) (hL0 : L0 ≤ 100) :
    Calls Tryz.prog 67 #[v, .agg #[.bool s4, .slice A4 n4 c4, .slice D4 m4 e4]] w fun e w' => e = .returned (.bool ((clsL l q : Int) == 2)) ∧ Below w.heap.size w w' := by
  have k0 := hq
  clear hq
  go_enter Tryz.func67, Tryz.ntmps67
  go_wp2_with fail
  obtain ⟨W0, hW, b3, hbW, hszW0⟩ := boxes1 w #[.bool s4, .slice A4 n4 c4, .slice D4 m4 e4] 37
  rw [hW]
  clear hW
  replace k0 := k0.below hbW
  have H0 := hbW
  clear hbW
  obtain ⟨cb30, cb31, cb32⟩ := b3.cells3
  replace hS := hS.below H0
  go_wp2_with fail
  obtain ⟨kk, hkk⟩ : ∃ k, clsL l q = k := ⟨_, rfl⟩
  clear cb30 cb31 cb32
  refine (class_v hS k0 hL hL0).mono ?_
  rintro e w1 ⟨rfl, hb⟩
  replace k0 := k0.below hb
  replace b3 := b3.below hb
  replace H0 := H0.trans (hb.mono H0.size)
  clear hb
  go_wp2_with fail
  go_returns
  exact ⟨by rw [hkk]; rfl, H0⟩
end
end Go.Proofs.YtpgkkkodniiilaaGreatDoor
