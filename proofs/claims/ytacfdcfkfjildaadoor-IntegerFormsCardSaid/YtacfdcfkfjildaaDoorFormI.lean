/-
  The contracts of Int64, Normal and NormalI.
-/
import Derived.Test.YtacfdcfkfjildaaDoorRefI
namespace Go.Proofs.YtacfdcfkfjildaaDoor
open Go.RowKit

section
variable {A : Option Addr} {n c L : Nat} {s : Bool} {z : Int} {w : World} {ds : List Nat}
/-- Whether an integer of these digits is in normal form. -/
def normIB (s : Bool) (ds : List Nat) : Bool := normB ds && !(s && ds.length == 0)
set_option maxRecDepth 100000 in
theorem inormal_v (h : Raw w (.slice A n c) ds) :
    Calls Tryd.prog 51 #[.agg #[.bool s, .slice A n c]] w fun e w' => e = .returned (.bool (normIB s ds)) ∧ Below w.heap.size w w' := by
  have hn := h.cap.1
  obtain ⟨b, hb⟩ : ∃ b, normB ds = b := ⟨_, rfl⟩
  have hr : normIB s ds = (b && !(s && n == 0)) := by unfold normIB; rw [hb, hn]
  have HB := Lib.hid hb
  rw [hr]
  clear hr hn hb
  rcases Nat.eq_zero_or_pos n with rfl | hn0
  · cases b <;> cases s
    all_goals
      go_enter Tryd.func51, Tryd.ntmps51
      go_wp2_with fail
      obtain ⟨W, hW, b0, hbW, hsW⟩ := boxes1 w #[.bool _, .slice A 0 c] 64
      rw [hW]
      have c0 := b0.cell 0 _ rfl
      have c1 := b0.cell 1 _ rfl
      clear hW
      refine (normal_any (h.below hbW)).mono ?_
      rintro e w' ⟨rfl, rfl⟩
      rw [HB.out]
      go_wp2_with fail
      go_returns
      exact ⟨rfl, hbW⟩
  · have hn1 : ((n : Int) == 0) = false := by rw [beq_eq_false_iff_ne]; omega
    have hn2 : (n == 0) = false := by rw [beq_eq_false_iff_ne]; omega
    have hr : (b && !(s && n == 0)) = b := by rw [hn2]; simp
    rw [hr]
    clear hr hn2 hn0
    cases b <;> cases s
    all_goals
      go_enter Tryd.func51, Tryd.ntmps51
      go_wp2_with fail
      obtain ⟨W, hW, b0, hbW, hsW⟩ := boxes1 w #[.bool _, .slice A n c] 64
      rw [hW]
      have c0 := b0.cell 0 _ rfl
      have c1 := b0.cell 1 _ rfl
      clear hW
      refine (normal_any (h.below hbW)).mono ?_
      rintro e w' ⟨rfl, rfl⟩
      rw [HB.out]
      go_wp2_with fail
      go_returns
      exact ⟨rfl, hbW⟩
set_option maxRecDepth 100000 in
theorem normalI_v (h : Raw w (.slice A n c) ds) :
    Calls Tryd.prog 52 #[.agg #[.bool s, .slice A n c]] w fun e w' => e = .returned (.bool (normIB s ds)) ∧ Below w.heap.size w w' := by
  have hn := h.cap.1
  obtain ⟨b, hb⟩ : ∃ b, normB ds = b := ⟨_, rfl⟩
  have hr : normIB s ds = (b && !(s && n == 0)) := by unfold normIB; rw [hb, hn]
  have HB := Lib.hid hb
  rw [hr]
  clear hr hn hb
  rcases Nat.eq_zero_or_pos n with rfl | hn0
  · cases b <;> cases s
    all_goals
      go_enter Tryd.func52, Tryd.ntmps52
      go_wp2_with fail
      obtain ⟨W, hW, b0, hbW, hsW⟩ := boxes1 w #[.bool _, .slice A 0 c] 64
      rw [hW]
      have c0 := b0.cell 0 _ rfl
      have c1 := b0.cell 1 _ rfl
      clear hW
      refine (normaln_any (h.below hbW)).mono ?_
      rintro e w' ⟨rfl, rfl⟩
      rw [HB.out]
      go_wp2_with fail
      go_returns
      exact ⟨rfl, hbW⟩
  · have hn1 : decide ((0 : Int) < (n : Int)) = true := decide_eq_true (by omega)
    have hn2 : (n == 0) = false := by rw [beq_eq_false_iff_ne]; omega
    have hr : (b && !(s && n == 0)) = b := by rw [hn2]; simp
    rw [hr]
    clear hr hn2
    cases b <;> cases s
    all_goals
      go_enter Tryd.func52, Tryd.ntmps52
      go_wp2_with fail
      obtain ⟨W, hW, b0, hbW, hsW⟩ := boxes1 w #[.bool _, .slice A n c] 64
      rw [hW]
      have c0 := b0.cell 0 _ rfl
      have c1 := b0.cell 1 _ rfl
      clear hW
      refine (normaln_any (h.below hbW)).mono ?_
      rintro e w' ⟨rfl, rfl⟩
      rw [HB.out]
      go_wp2_with fail
      go_returns
      exact ⟨rfl, hbW⟩
set_option maxRecDepth 100000 in
theorem int64_big (h : RI w s (.slice A n c) z L) (hz : 18446744073709551616 ≤ z.natAbs) :
    Calls Tryd.prog 45 #[.agg #[.bool s, .slice A n c]] w fun e w' => e = .returned (.tuple #[.int .i64 0, .bool false]) ∧ Below w.heap.size w w' := by
  have hr := h.rv
  have HZ := Lib.hid hz
  clear h hz
  cases s
  all_goals
    go_enter Tryd.func45, Tryd.ntmps45
    go_wp2_with fail
    obtain ⟨W, hW, b0, hbW, hsW⟩ := boxes1 w #[.bool _, .slice A n c] 64
    rw [hW]
    clear hW
    refine (uint_big (hr.below hbW) HZ.out).mono ?_
    rintro e w' ⟨rfl, hb⟩
    have c0 := (b0.below hb).cell 0 _ rfl
    have hbf := hbW.trans (hb.mono hbW.size)
    go_wp2_with fail
    go_ret2
    exact ⟨rfl, hbf⟩
set_option maxRecDepth 100000 in
theorem int64_mid_pos {m : Nat} (hr : RV w (.slice A n c) m L) (hm64 : m < 18446744073709551616) (ho : 9223372036854775807 < m) :
    Calls Tryd.prog 45 #[.agg #[.bool false, .slice A n c]] w fun e w' => e = .returned (.tuple #[.int .i64 0, .bool false]) ∧ Below w.heap.size w w' := by
  have hd1 : ((9223372036854775807 : Int) < (m : Int)) := by omega
  go_enter Tryd.func45, Tryd.ntmps45
  go_wp2_with fail
  obtain ⟨W, hW, b0, hbW, hsW⟩ := boxes1 w #[.bool false, .slice A n c] 64
  rw [hW]
  clear hW
  refine (uint_small (hr.below hbW) hm64).mono ?_
  rintro e w' ⟨rfl, hb⟩
  have c0 := (b0.below hb).cell 0 _ rfl
  have hbf := hbW.trans (hb.mono hbW.size)
  go_wp2_with fail
  go_ret2
  exact ⟨rfl, hbf⟩
set_option maxRecDepth 100000 in
theorem int64_mid_neg {m : Nat} (hr : RV w (.slice A n c) m L) (hm64 : m < 18446744073709551616) (ho : 9223372036854775808 < m) :
    Calls Tryd.prog 45 #[.agg #[.bool true, .slice A n c]] w fun e w' => e = .returned (.tuple #[.int .i64 0, .bool false]) ∧ Below w.heap.size w w' := by
  have hd1 : ((9223372036854775808 : Int) < (m : Int)) := by omega
  go_enter Tryd.func45, Tryd.ntmps45
  go_wp2_with fail
  obtain ⟨W, hW, b0, hbW, hsW⟩ := boxes1 w #[.bool true, .slice A n c] 64
  rw [hW]
  clear hW
  refine (uint_small (hr.below hbW) hm64).mono ?_
  rintro e w' ⟨rfl, hb⟩
  have c0 := (b0.below hb).cell 0 _ rfl
  have hbf := hbW.trans (hb.mono hbW.size)
  go_wp2_with fail
  go_ret2
  exact ⟨rfl, hbf⟩
set_option maxRecDepth 100000 in
theorem int64_pos {m : Nat} (hr : RV w (.slice A n c) m L) (hm : m ≤ 9223372036854775807) :
    Calls Tryd.prog 45 #[.agg #[.bool false, .slice A n c]] w fun e w' => e = .returned (.tuple #[.int .i64 (m : Int), .bool true]) ∧ Below w.heap.size w w' := by
  have hd1 : ¬ (9223372036854775807 : Int) < (m : Int) := by omega
  have hd3 : ¬ 9223372036854775807 < m := by omega
  have hm64 : m < 18446744073709551616 := by omega
  have hw : IntKind.i64.wrap (m : Int) = (m : Int) := by simp [IntKind.wrap, IntKind.bits, IntKind.signed]; omega
  go_enter Tryd.func45, Tryd.ntmps45
  go_wp2_with fail
  obtain ⟨W, hW, b0, hbW, hsW⟩ := boxes1 w #[.bool false, .slice A n c] 64
  rw [hW]
  clear hW
  refine (uint_small (hr.below hbW) hm64).mono ?_
  rintro e w' ⟨rfl, hb⟩
  have c0 := (b0.below hb).cell 0 _ rfl
  have hbf := hbW.trans (hb.mono hbW.size)
  go_wp2_with fail
  go_ret2
  exact ⟨rfl, hbf⟩
set_option maxRecDepth 100000 in
theorem int64_neg {m : Nat} (hr : RV w (.slice A n c) m L) (hm : m ≤ 9223372036854775808) :
    Calls Tryd.prog 45 #[.agg #[.bool true, .slice A n c]] w fun e w' => e = .returned (.tuple #[.int .i64 (-(m : Int)), .bool true]) ∧ Below w.heap.size w w' := by
  have hd1 : ¬ (9223372036854775808 : Int) < (m : Int) := by omega
  have hd3 : ¬ 9223372036854775808 < m := by omega
  have hm64 : m < 18446744073709551616 := by omega
  have hw : IntKind.i64.wrap (IntKind.u64.wrap (-(m : Int))) = -(m : Int) := by simp [IntKind.wrap, IntKind.bits, IntKind.signed]; omega
  go_enter Tryd.func45, Tryd.ntmps45
  go_wp2_with fail
  obtain ⟨W, hW, b0, hbW, hsW⟩ := boxes1 w #[.bool true, .slice A n c] 64
  rw [hW]
  clear hW
  refine (uint_small (hr.below hbW) hm64).mono ?_
  rintro e w' ⟨rfl, hb⟩
  have c0 := (b0.below hb).cell 0 _ rfl
  have hbf := hbW.trans (hb.mono hbW.size)
  go_wp2_with fail
  go_ret2
  exact ⟨rfl, hbf⟩
theorem int64_in (h : RI w s (.slice A n c) z L) (h0 : -9223372036854775808 ≤ z) (h1 : z ≤ 9223372036854775807) :
    Calls Tryd.prog 45 #[.agg #[.bool s, .slice A n c]] w fun e w' => e = .returned (.tuple #[.int .i64 z, .bool true]) ∧ Below w.heap.size w w' := by
  obtain ⟨x, hx, rfl⟩ := h
  cases s
  · rw [sg_false] at *
    exact int64_pos hx (by omega)
  · rw [sg_true] at *
    exact int64_neg hx (by omega)
theorem int64_out (h : RI w s (.slice A n c) z L) (ho : z < -9223372036854775808 ∨ 9223372036854775807 < z) :
    Calls Tryd.prog 45 #[.agg #[.bool s, .slice A n c]] w fun e w' => e = .returned (.tuple #[.int .i64 0, .bool false]) ∧ Below w.heap.size w w' := by
  rcases Nat.lt_or_ge z.natAbs 18446744073709551616 with hm | hm
  · obtain ⟨x, hx, rfl⟩ := h
    rw [sg_abs] at hm
    cases s
    · rw [sg_false] at ho; exact int64_mid_pos hx hm (by omega)
    · rw [sg_true] at ho; exact int64_mid_neg hx hm (by omega)
  · exact int64_big h hm
end
end Go.Proofs.YtacfdcfkfjildaaDoor
