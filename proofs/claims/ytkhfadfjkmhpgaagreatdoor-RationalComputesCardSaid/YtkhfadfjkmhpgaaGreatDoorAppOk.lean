/-
  AppendUint of any number: what Format wants.
-/
import Derived.Test.YtkhfadfjkmhpgaaGreatDoorShelf
import Derived.Test.YtkhfadfjkmhpgaaGreatDoorK2
import Derived.Test.YtkhfadfjkmhpgaaGreatDoorText
import Derived.Test.YtkhfadfjkmhpgaaGreatDoorLaid5
import Derived.Test.YtkhfadfjkmhpgaaGreatDoorK10
import Derived.LoopN
import Derived.Lib.SmallJoins
import Derived.Lib.LaidTab
namespace Go.Proofs.YtkhfadfjkmhpgaaGreatDoor
open Go.RowKit

theorem decs_digits {x : Nat} (h : 0 < x) : decs x = (Lib.decDigits x).map UInt8.toNat := by
  induction x using Nat.strongRecOn with
  | ind x ih =>
    rw [Lib.decDigits, decs_pos h]
    rcases Nat.lt_or_ge x 10 with h1 | h1
    · rw [dif_pos h1, show x / 10 = 0 by omega, decs_zero, Nat.mod_eq_of_lt h1]
      simp; omega
    · rw [dif_neg (by omega), ih (x / 10) (by omega) (by omega), List.map_append]
      simp; omega
theorem appOk_any {w : World} {t : Nat} (h0 : 0 < t) (h9 : t < 18446744073709551616) (htab : Lib.TabIs Tryz.prog w "internal/strconv.uint64pow10" .u64 Lib.pow10Tab) : AppOk w t := fun W hbW => by
  have hT : Lib.TabIs Tryz.prog W "internal/strconv.uint64pow10" .u64 Lib.pow10Tab := Go.Joins.tab_stays (show Tryz.prog.globalNamed "internal/strconv.uint64pow10" = some 5 by kernel_rfl) htab hbW (Nat.le_refl _)
  have hin : Calls Tryz.prog 145 #[.slice none 0 0, .int .u64 (t : Int), .int .i64 10] W fun e W' => ∃ v, e = .returned v ∧ GrowB W' W.heap.size v (decs t) ∧ Below W.heap.size W W' := by
    have hown : W.ownsRow W.heap.size 5 1 (.slice none 0 0) 0 [] := ⟨by simp, .inl ⟨rfl, rfl⟩⟩
    have hd := decs_digits h0
    have hlen : (decs t).length = (Lib.decDigits t).length := by rw [hd, List.length_map]
    have hmap : (decs t).map bv = Lib.byteCells (Lib.decDigits t) := by
      rw [hd, List.map_map]; rfl
    have key : ∀ (e : Ending) (W' : World), (∃ v', e = .returned v' ∧ W'.ownsRow W.heap.size 5 1 v' (0 + (Lib.decDigits t).length) ([] ++ Lib.byteCells (Lib.decDigits t)) ∧ Below W.heap.size W W' ∧ Lib.OthersKept 5 none W W') → ∃ v, e = .returned v ∧ GrowB W' W.heap.size v (decs t) ∧ Below W.heap.size W W' := by
      rintro e W' ⟨v, rfl, ho, hb, _⟩
      rw [Nat.zero_add, List.nil_append, ← hlen, ← hmap] at ho
      exact ⟨v, rfl, ⟨okB_of (decs_byte t), ho⟩, hb⟩
    rcases Nat.lt_or_ge t 100 with h1 | h1
    · exact (Tryz.internal_strconv_AppendUint_10_small W.heap.size 0 t h1 _ [] W hown (Nat.le_refl _) (by omega)).mono key
    · exact (Tryz.internal_strconv_AppendUint_10_big W.heap.size 0 t h1 h9 _ [] W hown (Nat.le_refl _) (by omega) hT).mono key
  have H := Lib.hid hin
  clear hin hT htab
  go_enter Tryz.func130, Tryz.ntmps130
  go_wp2_with fail
  refine H.out.mono ?_
  rintro e W' ⟨v, rfl, hg, hb⟩
  go_wp2_with fail
  go_ret
  exact ⟨v, rfl, hg, hb⟩
theorem top9_bounds (x : Nat) (h : 0 < x) : 0 < top9 x ∧ top9 x < 1000000000 := by
  induction x using Nat.strongRecOn with
  | ind x ih =>
    rcases Nat.lt_or_ge x 1000000000 with h1 | h1
    · rw [top9_small h1]; exact ⟨h, h1⟩
    · rw [top9_big h1]; exact ih (x / 1000000000) (by omega) (by omega)
set_option maxRecDepth 100000 in
theorem format_any {A : Option Addr} {n c x : Nat} {ds : List Nat} {w : World} (hx : Raw w (.slice A n c) ds) (hvx : Hid (val ds = x)) (hl : ds.length ≤ 1000) (htab : Lib.TabIs Tryz.prog w "internal/strconv.uint64pow10" .u64 Lib.pow10Tab) :
    Calls Tryz.prog 97 #[.slice A n c] w fun e w' => e = .returned (.string (strB (decT x))) ∧ Below w.heap.size w w' := by
  rcases Nat.eq_zero_or_pos x with rfl | h0
  · have hd : strB (decT 0) = ⟨#[48]⟩ := rfl
    rw [hd]
    clear htab hd
    go_enter Tryz.func97, Tryz.ntmps97
    go_wp2_with fail
    refine (norm_is hx hvx).mono ?_
    rintro e w1 ⟨v, rfl, hg, hb⟩
    obtain ⟨B, d, rfl⟩ := hg.form
    rw [digs_zero]
    clear hg
    go_wp2_with fail
    refine wp_loop_rounds 1 ?_
    rw [rounds_succ]
    go_wp2_with fail
    go_ret
    exact ⟨rfl, hb⟩
  · have hd : decT x = decs x := by unfold decT; rw [if_neg (by omega)]
    rw [hd]
    obtain ⟨h1, h2⟩ := top9_bounds x h0
    exact format_pos hx hvx h0 (appOk_any h1 (by omega) htab) hl
theorem decs_dig (x : Nat) : ∀ b ∈ decs x, Dig b := by
  induction x using Nat.strongRecOn with
  | ind x ih =>
    rcases Nat.eq_zero_or_pos x with h | h
    · subst h; rw [decs_zero]; exact fun _ h => by cases h
    · rw [decs_pos h]
      intro b hb
      rcases List.mem_append.1 hb with hb | hb
      · exact ih (x / 10) (by omega) b hb
      · rw [List.mem_singleton] at hb; rw [hb]; exact ⟨by omega, by omega⟩
theorem decN_decs (x : Nat) : decN (decs x) = x := by
  induction x using Nat.strongRecOn with
  | ind x ih =>
    rcases Nat.eq_zero_or_pos x with h | h
    · subst h; rw [decs_zero]; rfl
    · rw [decs_pos h, decN_snoc, ih (x / 10) (by omega)]; omega
theorem decT_dig (x : Nat) : ∀ b ∈ decT x, Dig b := by
  unfold decT; split
  · intro b hb; rw [List.mem_singleton] at hb; rw [hb]; exact ⟨by omega, by omega⟩
  · exact decs_dig x
theorem decT_ne (x : Nat) : decT x ≠ [] := by
  unfold decT; split
  · simp
  · rw [decs_pos (by omega)]; simp
theorem decN_decT (x : Nat) : decN (decT x) = x := by
  unfold decT; split
  · rename_i h; subst h; rfl
  · exact decN_decs x
theorem decT_ok (x : Nat) : OkB (decT x) := fun b hb => by
  obtain ⟨_, h⟩ := decT_dig x b hb; omega
theorem decT_len {x L : Nat} (h : x < Bs L) : (decT x).length ≤ 10 * L + 1 := by
  unfold decT; split
  · simp
  · exact Nat.le_trans (decs_length (10 * L) x (Nat.lt_of_lt_of_le h (Bs_ten L))) (by omega)
end Go.Proofs.YtkhfadfjkmhpgaaGreatDoor
