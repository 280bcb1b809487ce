/-
  The contract of DivMod.
-/
import Derived.Test.YtfonldogbfkpiaaGreatK3
import Derived.Test.YtfonldogbfkpiaaGreatDivLong
namespace Go.Proofs.YtfonldogbfkpiaaGreat
open Go.RowKit

set_option maxRecDepth 100000 in
set_option maxHeartbeats 800000 in
theorem divmod_long {A A' : Option Addr} {n n' c c' x y m r : Nat} {ds es : List Nat} {w : World} (hx : Raw w (.slice A n c) ds) (hy : Raw w (.slice A' n' c') es) (hvx : Hid (val ds = x)) (hvy : Hid (val es = y)) (hm : Hid ((digs y).length = m + 2)) (hr : Hid ((digs x).length = m + 2 + r)) (h9 : m + 2 + r ≤ 1000000) :
    Calls Tryz.prog 119 #[.slice A n c, .slice A' n' c'] w fun e w' => ∃ B k d B' k' d', e = .returned (.tuple #[.slice B k d, .slice B' k' d', .bool true]) ∧ Num w' (.slice B k d) (x / y) ∧ Num w' (.slice B' k' d') (x % y) ∧ Below w.heap.size w w' := by
  have h0 : ((m : Int) + 2 == 0) = false := by rw [beq_eq_false_iff_ne]; omega
  have h1 : ((m : Int) + 2 == 1) = false := by rw [beq_eq_false_iff_ne]; omega
  go_enter Tryz.func119, Tryz.ntmps119
  go_wp2_with fail
  refine (trim_is hx hvx).mono ?_
  rintro e w' ⟨rfl, hX, rfl⟩
  go_wp2_with fail
  refine (trim_is hy hvy).mono ?_
  rintro e w' ⟨rfl, hY, rfl⟩
  rw [hm.out] at hY ⊢
  rw [hr.out] at hX ⊢
  go_wp2_with fail
  refine (divlong_any hX hY rfl rfl h9).mono ?_
  rintro e w1 ⟨B, k, d, B', k', d', rfl, hQ, hR, hb⟩
  go_wp2_with fail
  go_ret3
  exact ⟨_, _, _, _, _, _, rfl, hQ, hR, hb⟩

theorem divmod_is {A A' : Option Addr} {n n' c c' x y : Nat} {ds es : List Nat} {w : World} (hx : Raw w (.slice A n c) ds) (hy : Raw w (.slice A' n' c') es) (hvx : Hid (val ds = x)) (hvy : Hid (val es = y)) (hy0 : 0 < y) (h9 : (digs x).length ≤ 1000000) :
    Calls Tryz.prog 119 #[.slice A n c, .slice A' n' c'] w fun e w' => ∃ B k d B' k' d', e = .returned (.tuple #[.slice B k d, .slice B' k' d', .bool true]) ∧ Num w' (.slice B k d) (x / y) ∧ Num w' (.slice B' k' d') (x % y) ∧ Below w.heap.size w w' := by
  have hl := digs_length_pos hy0
  rcases Nat.lt_or_ge (digs x).length (digs y).length with hlt | hge
  · exact divmod_less hx hy hvx hvy hlt
  · rcases Nat.lt_or_ge (digs y).length 2 with h1 | h2
    · have hy1 : y < 4294967296 := by
        have := lt_of_digs_length (show (digs y).length ≤ 1 by omega)
        rwa [Bs_one] at this
      exact divmod_digit hx hy hvx hvy hy0 hy1 (by omega)
    · obtain ⟨m, hm⟩ : ∃ m, (digs y).length = m + 2 := ⟨(digs y).length - 2, by omega⟩
      obtain ⟨r, hr⟩ : ∃ r, (digs x).length = m + 2 + r := ⟨(digs x).length - (m + 2), by omega⟩
      exact divmod_long hx hy hvx hvy (Lib.hid hm) (Lib.hid hr) (by omega)

section
variable {A A' : Option Addr} {n n' c c' x y L L' : Nat} {w : World}
theorem divmod_v (hx : RV w (.slice A n c) x L) (hy : RV w (.slice A' n' c') y L') (hy0 : 0 < y) (hL : L ≤ 1000000) :
    Calls Tryz.prog 119 #[.slice A n c, .slice A' n' c'] w fun e w' => ∃ B k d B' k' d', e = .returned (.tuple #[.slice B k d, .slice B' k' d', .bool true]) ∧ NV w' (.slice B k d) (x / y) L ∧ NV w' (.slice B' k' d') (x % y) L' ∧ Below w.heap.size w w' := by
  have h1 := hx.lt
  have h2 := hy.lt
  have h3 := digs_length_le h1
  obtain ⟨ds, a1, a2, a3⟩ := hx
  obtain ⟨es, b1, b2, b3⟩ := hy
  refine (divmod_is a1 b1 (Lib.hid a2) (Lib.hid b2) hy0 (by omega)).mono ?_
  rintro e w' ⟨B, k, d, B', k', d', rfl, hQ, hR, hb⟩
  exact ⟨B, k, d, B', k', d', rfl, ⟨hQ, Nat.lt_of_le_of_lt (Nat.div_le_self _ _) h1⟩, ⟨hR, Nat.lt_trans (Nat.mod_lt _ hy0) h2⟩, hb⟩
theorem divmod0_v (hx : RV w (.slice A n c) x L) (hy : RV w (.slice A' n' c') 0 L') :
    Calls Tryz.prog 119 #[.slice A n c, .slice A' n' c'] w fun e w' => e = .returned (.tuple #[.slice none 0 0, .slice none 0 0, .bool false]) ∧ Below w.heap.size w w' := by
  obtain ⟨ds, a1, a2, a3⟩ := hx
  obtain ⟨es, b1, b2, b3⟩ := hy
  refine (divmod_zero a1 b1 (Lib.hid a2) (Lib.hid b2)).mono ?_
  rintro e w' ⟨rfl, rfl⟩
  exact ⟨rfl, Below.refl _ _⟩
end
end Go.Proofs.YtfonldogbfkpiaaGreat
