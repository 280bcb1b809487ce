/-
  The contract of the reference's Divide: the case of a smaller dividend, and the case of a divisor with two digits or more.
-/
import Derived.Test.YtkhfadfjkmhpgaaDoorLong
namespace Go.Proofs.YtkhfadfjkmhpgaaDoor
open Go.RowKit

set_option maxRecDepth 100000 in
set_option maxHeartbeats 1600000 in
theorem ndivide_less {A A' : Option Addr} {n n' c c' x y : Nat} {w : World} (hX : Num w (.slice A n c) x) (hY : Num w (.slice A' n' c') y) (hlt : x < y) (h2 : 2 < n') :
    Calls Tryd.prog 44 #[.slice A n c, .slice A' n' c'] w fun e w' => ∃ B k d B' k' d', e = .returned (.tuple #[.slice B k d, .slice B' k' d']) ∧ Num w' (.slice B k d) (x / y) ∧ Num w' (.slice B' k' d') (x % y) ∧ Below w.heap.size w w' := by
  have hq : x / y = 0 := Nat.div_eq_of_lt hlt
  have hr : x % y = x := Nat.mod_eq_of_lt hlt
  have hcm := cmpI_lt hlt
  have hln := (Raw.cap hX).1
  have hl := Raw.len hX
  have HQ := Lib.hid hq
  have HR := Lib.hid hr
  have HC := Lib.hid hcm
  have HLN := Lib.hid hln
  clear hq hr hcm hlt hln
  rcases Nat.lt_or_ge 2 n with h3 | h3
  · go_enter Tryd.func44, Tryd.ntmps44
    go_wp2_with fail
    refine (nword_big h3).mono ?_
    rintro e w' ⟨rfl, rfl⟩
    go_wp2_with fail
    refine (ncmp_is hX hY).mono ?_
    rintro e w' ⟨rfl, j, rfl⟩
    rw [HC.out]
    go_wp2_with (at_builtin; refine wpList_append_digs rfl _ _ _ _ rfl Tryd.underlying30 Tryd.underlying30 w'.heap.size rfl (grow_empty _) rfl (raw_alloc hX _) (by simp) (by simpa using hl) ?_; intro v' w1 hg hgr hb)
    rw [List.nil_append] at hg
    have hb2 : Below w'.heap.size w' w1 := (below_drewN (Below.refl _ w') j).trans ((below_alloc (w'.drewN j) (.cells #[] 68)).trans hb)
    obtain ⟨A1, c1, rfl⟩ := hg.form
    have hr := hg.raw hl
    go_wp2_with fail
    go_ret2
    exact ⟨_, _, _, _, _, _, rfl, by rw [HQ.out]; exact num_zero _ _, by rw [HR.out]; exact hr, hb2⟩
  · go_enter Tryd.func44, Tryd.ntmps44
    go_wp2_with fail
    refine (nword_small hX h3).mono ?_
    rintro e w' ⟨rfl, j0, rfl⟩
    go_wp2_with fail
    refine (nword_big h2).mono ?_
    rintro e w' ⟨rfl, rfl⟩
    go_wp2_with fail
    refine (ncmp_is (w := w.drewN j0) hX hY).mono ?_
    rintro e w' ⟨rfl, j, rfl⟩
    rw [HC.out]
    go_wp2_with (at_builtin; refine wpList_append_digs rfl _ _ _ _ rfl Tryd.underlying30 Tryd.underlying30 w.heap.size rfl (grow_empty _) rfl (raw_alloc hX _) (by simp) (by simpa using hl) ?_; intro v' w1 hg hgr hb)
    rw [List.nil_append] at hg
    obtain ⟨A1, c1, rfl⟩ := hg.form
    have hr := hg.raw hl
    go_wp2_with fail
    go_ret2
    refine ⟨_, _, _, _, _, _, rfl, by rw [HQ.out]; exact num_zero _ _, by rw [HR.out]; exact hr, ?_⟩
    exact (below_drewN (Below.refl _ w) (j0 + j)).trans ((below_alloc (w.drewN (j0 + j)) (.cells #[] 68)).trans hb)
set_option maxRecDepth 100000 in
theorem ndivide_long {A A' : Option Addr} {n n' c c' x y : Nat} {w : World} (hX : Num w (.slice A n c) x) (hY : Num w (.slice A' n' c') y) (hle : y ≤ x) (h2 : 2 ≤ n') (h3 : 2 < n) (hn9 : n ≤ 1000) :
    Calls Tryd.prog 44 #[.slice A n c, .slice A' n' c'] w fun e w' => ∃ B k d B' k' d', e = .returned (.tuple #[.slice B k d, .slice B' k' d']) ∧ Num w' (.slice B k d) (x / y) ∧ Num w' (.slice B' k' d') (x % y) ∧ Below w.heap.size w w' := by
  have hcm : 0 ≤ cmpI x y := by
    rcases Nat.lt_or_ge y x with h | h
    · rw [cmpI_gt h]; omega
    · rw [cmpI_eq (Nat.le_antisymm h hle)]; omega
  have HLE := Lib.hid hle
  have h1 : ((n' : Int) == 1) = false := by rw [beq_eq_false_iff_ne]; omega
  clear hle
  go_enter Tryd.func44, Tryd.ntmps44
  go_wp2_with fail
  refine (nword_big h3).mono ?_
  rintro e w' ⟨rfl, rfl⟩
  go_wp2_with fail
  refine (ncmp_is hX hY).mono ?_
  rintro e w' ⟨rfl, j, rfl⟩
  generalize cmpI x y = cv at *
  have hcd : decide (cv < 0) = false := by rw [decide_eq_false_iff_not]; omega
  go_wp2_with fail
  refine (nlong_is (w := w'.drewN j) hX hY h2 HLE.out hn9).mono ?_
  rintro e w2 ⟨B, k, d, B', k', d', rfl, hN1, hN2, hb⟩
  go_wp2_with fail
  go_ret2
  exact ⟨_, _, _, _, _, _, rfl, hN1, hN2, (below_drewN (Below.refl _ w') j).trans hb⟩
end Go.Proofs.YtkhfadfjkmhpgaaDoor
