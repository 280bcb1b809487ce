/-
  DivMod where no long division is wanted.
-/
import Derived.Test.YtkhfadfjkmhpgaaDoorBase
import Derived.Test.YtkhfadfjkmhpgaaDoorDivD
namespace Go.Proofs.YtkhfadfjkmhpgaaDoor
open Go.RowKit

set_option maxRecDepth 100000 in
theorem divmod_zero {A A' : Option Addr} {n n' c c' x : Nat} {ds es : List Nat} {w : World} (hx : Raw w (.slice A n c) ds) (hy : Raw w (.slice A' n' c') es) (hvx : Hid (val ds = x)) (hvy : Hid (val es = 0)) :
    Calls Tryd.prog 28 #[.slice A n c, .slice A' n' c'] w fun e w' => e = .returned (.tuple #[.slice none 0 0, .slice none 0 0, .bool false]) ∧ w = w' := by
  go_enter Tryd.func28, Tryd.ntmps28
  go_wp2_with fail
  refine (trim_is hx hvx).mono ?_
  rintro e w' ⟨rfl, hX, rfl⟩
  go_wp2_with fail
  refine (trim_is hy hvy).mono ?_
  rintro e w' ⟨rfl, hY, rfl⟩
  rw [digs_zero]
  go_wp2_with fail
  go_ret3
  exact ⟨rfl, rfl⟩

set_option maxRecDepth 100000 in
theorem divmod_less {A A' : Option Addr} {n n' c c' x y : Nat} {ds es : List Nat} {w : World} (hx : Raw w (.slice A n c) ds) (hy : Raw w (.slice A' n' c') es) (hvx : Hid (val ds = x)) (hvy : Hid (val es = y)) (hlt : (digs x).length < (digs y).length) :
    Calls Tryd.prog 28 #[.slice A n c, .slice A' n' c'] w fun e w' => ∃ B k d B' k' d', e = .returned (.tuple #[.slice B k d, .slice B' k' d', .bool true]) ∧ Num w' (.slice B k d) (x / y) ∧ Num w' (.slice B' k' d') (x % y) ∧ Below w.heap.size w w' := by
  have hxy : x < y := by
    rcases Nat.lt_or_ge x y with h | h
    · exact h
    · have := digs_length_mono h; omega
  have h1 : x / y = 0 := Nat.div_eq_of_lt hxy
  have h2 : x % y = x := Nat.mod_eq_of_lt hxy
  have H1 := Lib.hid h1
  have H2 := Lib.hid h2
  clear h1 h2 hxy
  have h0 : (((digs y).length : Int) == 0) = false := by rw [beq_eq_false_iff_ne]; omega
  go_enter Tryd.func28, Tryd.ntmps28
  go_wp2_with fail
  refine (trim_is hx hvx).mono ?_
  rintro e w' ⟨rfl, hX, rfl⟩
  go_wp2_with fail
  refine (trim_is hy hvy).mono ?_
  rintro e w' ⟨rfl, hY, rfl⟩
  go_wp2_with fail
  refine (norm_is hX (Lib.hid (val_digs x))).mono ?_
  rintro e w1 ⟨v, rfl, hg, hb⟩
  obtain ⟨A1, c1, rfl⟩ := hg.form
  have hr := hg.raw (Raw.len hX)
  go_wp2_with fail
  go_ret3
  exact ⟨_, _, _, _, _, _, rfl, by rw [H1.out]; exact num_zero _ _, by rw [H2.out]; exact hr, hb⟩

set_option maxRecDepth 100000 in
set_option maxHeartbeats 800000 in
theorem divmod_digit {A A' : Option Addr} {n n' c c' x y : Nat} {ds es : List Nat} {w : World} (hx : Raw w (.slice A n c) ds) (hy : Raw w (.slice A' n' c') es) (hvx : Hid (val ds = x)) (hvy : Hid (val es = y)) (hy0 : 0 < y) (hy1 : y < 4294967296) (hlt : 0 < (digs x).length) :
    Calls Tryd.prog 28 #[.slice A n c, .slice A' n' c'] w fun e w' => ∃ B k d B' k' d', e = .returned (.tuple #[.slice B k d, .slice B' k' d', .bool true]) ∧ Num w' (.slice B k d) (x / y) ∧ Num w' (.slice B' k' d') (x % y) ∧ Below w.heap.size w w' := by
  have hdy := digs_one_digit hy0 hy1
  have HDY := Lib.hid hdy
  clear hdy
  go_enter Tryd.func28, Tryd.ntmps28
  go_wp2_with fail
  refine (trim_is hx hvx).mono ?_
  rintro e w' ⟨rfl, hX, rfl⟩
  go_wp2_with fail
  refine (trim_is hy hvy).mono ?_
  rintro e w' ⟨rfl, hY, rfl⟩
  unfold Num at hY
  rw [HDY.out] at hY ⊢
  obtain ⟨ad, hA, hb0, hcy⟩ := hY.at_ (j := 0) (by simp)
  subst hA
  have e0 : ad.add 0 = ad := by unfold Addr.add; simp
  rw [e0] at hcy
  have hcy' : w.cell? ad = some (.int .u32 (y : Int)) := hcy
  clear hcy
  have hge : ¬ ((digs x).length : Int) < 1 := by omega
  have hdec : decide ((digs x).length < 1) = false := by rw [decide_eq_false_iff_not]; omega
  have hl := Raw.len hX
  have hne : digs x ≠ [] := by intro e; rw [e] at hlt; simp at hlt
  go_wp2_with fail
  refine (norm_is hX (Lib.hid (val_digs x))).mono ?_
  rintro e w1 ⟨v, rfl, hg, hb⟩
  obtain ⟨g, cap, rfl, hgB, hown, hcap⟩ := hg.own hne
  have hcy1 : w1.cell? ad = some (.int .u32 (y : Int)) := (hb.cell hb0).trans hcy'
  have HE := Lib.hid e0
  clear hcy' e0
  go_wp2_with fail
  refine (divd_any hy0 hy1 hown (okD_digs x) hl).mono ?_
  rintro e w2 ⟨qs, rfl, hown2, hqd, hql, hgr, hqv⟩
  have hb2 := hb.grown hgr hb.size (by rintro k hk; injection hk with hk; omega)
  have hraw := hown2.raw_all hqd (by rw [hql]; exact hl) (digs x).length cap hql.symm hcap
  have hm : val (digs x) % y < 18446744073709551616 := by have := Nat.mod_lt (val (digs x)) hy0; omega
  rw [val_digs] at hm hqv ⊢
  have HQV := Lib.hid hqv
  have HQL := Lib.hid hql
  clear hqv hql
  go_wp2_with fail
  refine (trim_is hraw HQV).mono ?_
  rintro e w3 ⟨rfl, hQ, rfl⟩
  go_wp2_with fail
  refine (fromuint_any (x % y) hm w2).mono ?_
  rintro e w3 ⟨B, k, d, rfl, hR, hb3⟩
  have hQ3 := Num.below hQ hb3
  have hb4 := hb2.trans (hb3.mono (Nat.le_trans hb.size hgr.size))
  go_wp2_with fail
  go_ret3
  exact ⟨_, _, _, _, _, _, rfl, hQ3, hR, hb4⟩
end Go.Proofs.YtkhfadfjkmhpgaaDoor
