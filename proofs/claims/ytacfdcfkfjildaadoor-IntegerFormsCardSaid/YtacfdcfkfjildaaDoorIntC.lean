/-
  The contracts of package integer: order, sum, difference, product, quotient and remainder.
-/
import Derived.Test.YtacfdcfkfjildaaDoorInt
namespace Go.Proofs.YtacfdcfkfjildaaDoor
open Go.RowKit

theorem isnan_any (a : Int) (w : World) : Calls Tryd.prog 121 #[.int .i64 a] w fun e w' => e = .returned (.bool false) ∧ w = w' := by
  go_enter Tryd.func121, Tryd.ntmps121
  go_wp2_with fail
  go_returns
  exact ⟨by simp, rfl⟩
theorem compare_any (a b : Int) (w : World) : Calls Tryd.prog 110 #[.int .i64 a, .int .i64 b] w fun e w' => e = .returned (.int .i64 (a - b).sign) ∧ w = w' := by
  rcases Int.lt_trichotomy a b with h | h | h
  · have hr : (a - b).sign = -1 := Int.sign_eq_neg_one_of_neg (by omega)
    rw [hr]
    clear hr
    go_enter Tryd.func110, Tryd.ntmps110
    go_wp2_with fail
    refine (isnan_any a w).mono ?_
    rintro e w' ⟨rfl, rfl⟩
    go_wp2_with fail
    refine (isnan_any b w).mono ?_
    rintro e w' ⟨rfl, rfl⟩
    go_wp2_with fail
    go_returns
    exact ⟨rfl, rfl⟩
  · subst h
    rw [Int.sub_self]
    go_enter Tryd.func110, Tryd.ntmps110
    go_wp2_with fail
    refine (isnan_any a w).mono ?_
    rintro e w' ⟨rfl, rfl⟩
    go_wp2_with fail
    refine (isnan_any a w).mono ?_
    rintro e w' ⟨rfl, rfl⟩
    go_wp2_with fail
    go_returns
    exact ⟨rfl, rfl⟩
  · have hr : (a - b).sign = 1 := Int.sign_eq_one_of_pos (by omega)
    rw [hr]
    clear hr
    go_enter Tryd.func110, Tryd.ntmps110
    go_wp2_with fail
    refine (isnan_any a w).mono ?_
    rintro e w' ⟨rfl, rfl⟩
    go_wp2_with fail
    refine (isnan_any b w).mono ?_
    rintro e w' ⟨rfl, rfl⟩
    go_wp2_with fail
    go_returns
    exact ⟨rfl, rfl⟩

theorem cmpI_sign (x y : Nat) : cmpI x y = ((x : Int) - y).sign := by
  rcases Nat.lt_trichotomy x y with h | h | h
  · rw [cmpI_lt h, Int.sign_eq_neg_one_of_neg (by omega)]
  · subst h; rw [cmpI_eq rfl, Int.sub_self]; rfl
  · rw [cmpI_gt h, Int.sign_eq_one_of_pos (by omega)]
theorem sign_cases (z : Int) : (z < 0 ∧ z.sign = -1) ∨ (z = 0 ∧ z.sign = 0) ∨ (0 < z ∧ z.sign = 1) := by
  rcases Int.lt_trichotomy z 0 with h | h | h
  · exact .inl ⟨h, Int.sign_eq_neg_one_of_neg h⟩
  · exact .inr (.inl ⟨h, by subst h; rfl⟩)
  · exact .inr (.inr ⟨h, Int.sign_eq_one_of_pos h⟩)
theorem sign_le (z : Int) : -1 ≤ z.sign ∧ z.sign ≤ 1 := by rcases sign_cases z with h | h | h <;> omega
theorem NV.more {w : World} {v : Value} {x L L' : Nat} (h : NV w v x L) (hL : L ≤ L') : NV w v x L' := ⟨h.1, Nat.lt_of_lt_of_le h.2 (Bs_mono hL)⟩

section
variable {A A' : Option Addr} {n n' c c' x y L L' : Nat} {s s' : Bool} {z z' : Int} {w : World}
set_option maxRecDepth 100000 in
/-- Integers of different signs. -/
theorem icmp_signs (h : RI w s (.slice A n c) z L) (h' : RI w s' (.slice A' n' c') z' L') {a b k : Int} (hs1 : z.sign = a) (hs2 : z'.sign = b) (hk : (a - b).sign = k) (hk0 : k ≠ 0) :
    Calls Tryd.prog 55 #[.agg #[.bool s, .slice A n c], .agg #[.bool s', .slice A' n' c']] w fun e w' => e = .returned (.int .i64 k) ∧ Below w.heap.size w w' := by
    have HS1 := Lib.hid hs1
    have HS2 := Lib.hid hs2
    have HK := Lib.hid hk
    have hkn : (k != 0) = true := by rw [bne_iff_ne]; exact hk0
    clear hs1 hs2 hk hk0
    go_enter Tryd.func55, Tryd.ntmps55
    go_wp2_with fail
    obtain ⟨W, hW, b0, b1, hbW, hsz⟩ := boxes2 w #[.bool s, .slice A n c] #[.bool s', .slice A' n' c'] 64 64
    rw [hW]
    have c0 := b0.cell 0 _ rfl
    have c1 := b0.cell 1 _ rfl
    clear hW
    go_wp2_with fail
    refine (isign_v (h.below hbW)).mono ?_
    rintro e w1 ⟨rfl, hb1⟩
    rw [HS1.out]
    have q0 := b0.below hb1
    have q1 := b1.below hb1
    have e0 := q1.cell 0 _ rfl
    have e1 := q1.cell 1 _ rfl
    have hbf1 := hbW.trans (hb1.mono hbW.size)
    clear c0 c1 hb1 b0 b1 hbW hsz
    go_wp2_with fail
    refine (isign_v (h'.below hbf1)).mono ?_
    rintro e w2 ⟨rfl, hb2⟩
    rw [HS2.out]
    have p0 := q0.below hb2
    have p1 := q1.below hb2
    have k1 := p0.cell 1 _ rfl
    have l1 := p1.cell 1 _ rfl
    have hbf := hbf1.trans (hb2.mono hbf1.size)
    clear e0 e1 hb2 q0 q1 hbf1
    go_wp2_with fail
    refine (compare_any _ _ w2).mono ?_
    rintro e w2 ⟨rfl, rfl⟩
    rw [HK.out]
    go_wp2_with fail
    go_returns
    exact ⟨rfl, hbf⟩
set_option maxRecDepth 100000 in
/-- Integers of one sign. -/
theorem icmp_abs (h : RI w s (.slice A n c) z L) (h' : RI w s' (.slice A' n' c') z' L') {a k : Int} (hs1 : z.sign = a) (hs2 : z'.sign = a) (hk : cmpI z.natAbs z'.natAbs = k) (hw : IntKind.i64.wrap (a * k) = a * k) :
    Calls Tryd.prog 55 #[.agg #[.bool s, .slice A n c], .agg #[.bool s', .slice A' n' c']] w fun e w' => e = .returned (.int .i64 (a * k)) ∧ Below w.heap.size w w' := by
    have HS1 := Lib.hid hs1
    have HS2 := Lib.hid hs2
    have HK := Lib.hid hk
    have hr := h.rv
    have hr' := h'.rv
    clear hs1 hs2 hk
    go_enter Tryd.func55, Tryd.ntmps55
    go_wp2_with fail
    obtain ⟨W, hW, b0, b1, hbW, hsz⟩ := boxes2 w #[.bool s, .slice A n c] #[.bool s', .slice A' n' c'] 64 64
    rw [hW]
    have c0 := b0.cell 0 _ rfl
    have c1 := b0.cell 1 _ rfl
    clear hW
    go_wp2_with fail
    refine (isign_v (h.below hbW)).mono ?_
    rintro e w1 ⟨rfl, hb1⟩
    rw [HS1.out]
    have q0 := b0.below hb1
    have q1 := b1.below hb1
    have e0 := q1.cell 0 _ rfl
    have e1 := q1.cell 1 _ rfl
    have hbf1 := hbW.trans (hb1.mono hbW.size)
    clear c0 c1 hb1 b0 b1 hbW hsz
    go_wp2_with fail
    refine (isign_v (h'.below hbf1)).mono ?_
    rintro e w2 ⟨rfl, hb2⟩
    rw [HS2.out]
    have p0 := q0.below hb2
    have p1 := q1.below hb2
    have k1 := p0.cell 1 _ rfl
    have l1 := p1.cell 1 _ rfl
    have hbf := hbf1.trans (hb2.mono hbf1.size)
    clear e0 e1 hb2 q0 q1 hbf1
    go_wp2_with fail
    refine (compare_any _ _ w2).mono ?_
    rintro e w2 ⟨rfl, rfl⟩
    rw [Int.sub_self, show (0 : Int).sign = 0 from rfl]
    go_wp2_with fail
    refine (cmp_v (hr.below hbf) (hr'.below hbf)).mono ?_
    rintro e w3 ⟨rfl, hb3⟩
    rw [HK.out]
    have hbf3 := hbf.trans (hb3.mono hbf.size)
    go_wp2_with fail
    go_returns
    exact ⟨rfl, hbf3⟩
theorem icmp_v (h : RI w s (.slice A n c) z L) (h' : RI w s' (.slice A' n' c') z' L') :
    Calls Tryd.prog 55 #[.agg #[.bool s, .slice A n c], .agg #[.bool s', .slice A' n' c']] w fun e w' => e = .returned (.int .i64 (z - z').sign) ∧ Below w.heap.size w w' := by
  by_cases hne : z.sign = z'.sign
  · have hr : (z - z').sign = z.sign * cmpI z.natAbs z'.natAbs := by
      rw [cmpI_sign]
      rcases sign_cases z with ⟨h1, h2⟩ | ⟨h1, h2⟩ | ⟨h1, h2⟩ <;> rcases sign_cases z' with ⟨k1, k2⟩ | ⟨k1, k2⟩ | ⟨k1, k2⟩ <;> rw [h2, k2] at hne <;> (try omega)
      · rw [h2, Int.neg_mul, Int.one_mul, ← Int.sign_neg]; congr 1; omega
      · rw [h1, k1]; rfl
      · rw [h2, Int.one_mul]; congr 1; omega
    rw [hr]
    have hk := sign_le (z - z')
    rw [hr] at hk
    exact icmp_abs h h' rfl hne.symm rfl (by generalize z.sign * cmpI z.natAbs z'.natAbs = q at hk; simp [IntKind.wrap, IntKind.bits, IntKind.signed]; omega)
  · have hk : (z.sign - z'.sign).sign = (z - z').sign := by
      rcases sign_cases z with ⟨h1, h2⟩ | ⟨h1, h2⟩ | ⟨h1, h2⟩ <;> rcases sign_cases z' with ⟨k1, k2⟩ | ⟨k1, k2⟩ | ⟨k1, k2⟩ <;> rw [h2, k2] at hne <;> (try omega)
      all_goals
        rw [h2, k2]
        rcases sign_cases (z - z') with ⟨m1, m2⟩ | ⟨m1, m2⟩ | ⟨m1, m2⟩ <;> first | (rw [m2]; rfl) | omega
    refine icmp_signs h h' rfl rfl hk ?_
    intro h0
    have := Int.sign_eq_zero_iff_zero.1 h0
    exact hne (by rw [show z = z' by omega])
end
end Go.Proofs.YtacfdcfkfjildaaDoor
