/-
  Is, Is2, Text, AppOk, ParseNo in one text.
-/
import Derived.Test.YtlpgbflajcfgpaaGreatDoorK10
import Derived.Test.YtlpgbflajcfgpaaGreatDoorChecked
import Derived.LaidEql
import Derived.Stop.Asserts
import Derived.RowKitTokens
import Derived.Deep.QuietTactic
import Derived.BigQuiet
import Derived.Test.YtlpgbflajcfgpaaGreatDoorK6
import Derived.Test.YtlpgbflajcfgpaaGreatDoorK3
import Derived.Test.YtlpgbflajcfgpaaGreatDoorB1
import Derived.Test.YtlpgbflajcfgpaaGreatDoorShelf
import Derived.Test.YtlpgbflajcfgpaaGreatDoorK2
import Derived.Test.YtlpgbflajcfgpaaGreatDoorLaid5
import Derived.LoopN
import Derived.Lib.SmallJoins
import Derived.Lib.LaidTab
namespace Go.Proofs.YtlpgbflajcfgpaaGreatDoor
open Go.RowKit Go.Extern.Stop Go.Stop Go.Extern

end Go.Proofs.YtlpgbflajcfgpaaGreatDoor
namespace Go.Proofs.YtlpgbflajcfgpaaGreatDoor
open Go.RowKit Go.Extern.Stop Go.Stop Go.Extern

end Go.Proofs.YtlpgbflajcfgpaaGreatDoor
namespace Go.Proofs.YtlpgbflajcfgpaaGreatDoor
open Go.RowKit

/-- The digits of a number as a text, "0" for 0. -/
def decT (x : Nat) : List Nat := if x = 0 then [48] else decs x
theorem strB_append (a b : List Nat) : strB a ++ strB b = strB (a ++ b) := by
  apply ByteArray.ext
  simp [strB]
theorem Bs_ten (k : Nat) : Bs k ≤ 10 ^ (10 * k) := by
  rw [Nat.pow_mul]
  exact Nat.pow_le_pow_left (by decide) k

end Go.Proofs.YtlpgbflajcfgpaaGreatDoor
namespace Go.Proofs.YtlpgbflajcfgpaaGreatDoor
open Go.RowKit

theorem decs_digits {x : Nat} (h : 0 < x) : decs x = (Lib.decDigits x).map UInt8.toNat := by
  induction x using Nat.strongRecOn with
  | ind x ih =>
    rw [Lib.decDigits, decs_pos h]
    rcases Nat.lt_or_ge x 10 with h1 | h1
    · rw [dif_pos h1, show x / 10 = 0 by omega, decs_zero, Nat.mod_eq_of_lt h1]
      simp; omega
    · rw [dif_neg (by omega), ih (x / 10) (by omega) (by omega), List.map_append]
      simp; omega
theorem appOk_any {w : World} {t : Nat} (h0 : 0 < t) (h9 : t < 18446744073709551616) (htab : Lib.TabIs Tryz.prog w "internal/strconv.uint64pow10" .u64 Lib.pow10Tab) : AppOk w t := fun W hbW => by
  have hT : Lib.TabIs Tryz.prog W "internal/strconv.uint64pow10" .u64 Lib.pow10Tab := Go.Joins.tab_stays (show Tryz.prog.globalNamed "internal/strconv.uint64pow10" = some 5 by kernel_rfl) htab hbW (Nat.le_refl _)
  have hin : Calls Tryz.prog 177 #[.slice none 0 0, .int .u64 (t : Int), .int .i64 10] W fun e W' => ∃ v, e = .returned v ∧ GrowB W' W.heap.size v (decs t) ∧ Below W.heap.size W W' := by
    have hown : W.ownsRow W.heap.size 5 1 (.slice none 0 0) 0 [] := ⟨by simp, .inl ⟨rfl, rfl⟩⟩
    have hd := decs_digits h0
    have hlen : (decs t).length = (Lib.decDigits t).length := by rw [hd, List.length_map]
    have hmap : (decs t).map bv = Lib.byteCells (Lib.decDigits t) := by
      rw [hd, List.map_map]; rfl
    have key : ∀ (e : Ending) (W' : World), (∃ v', e = .returned v' ∧ W'.ownsRow W.heap.size 5 1 v' (0 + (Lib.decDigits t).length) ([] ++ Lib.byteCells (Lib.decDigits t)) ∧ Below W.heap.size W W' ∧ Lib.OthersKept 5 none W W') → ∃ v, e = .returned v ∧ GrowB W' W.heap.size v (decs t) ∧ Below W.heap.size W W' := by
      rintro e W' ⟨v, rfl, ho, hb, _⟩
      rw [Nat.zero_add, List.nil_append, ← hlen, ← hmap] at ho
      exact ⟨v, rfl, ⟨okB_of (decs_byte t), ho⟩, hb⟩
    rcases Nat.lt_or_ge t 100 with h1 | h1
    · exact (Tryz.internal_strconv_AppendUint_10_small W.heap.size 0 t h1 _ [] W hown (Nat.le_refl _) (by omega)).mono key
    · exact (Tryz.internal_strconv_AppendUint_10_big W.heap.size 0 t h1 h9 _ [] W hown (Nat.le_refl _) (by omega) hT).mono key
  have H := Lib.hid hin
  clear hin hT htab
  go_enter Tryz.func162, Tryz.ntmps162
  go_wp2_with fail
  refine H.out.mono ?_
  rintro e W' ⟨v, rfl, hg, hb⟩
  go_wp2_with fail
  go_ret
  exact ⟨v, rfl, hg, hb⟩
theorem top9_bounds (x : Nat) (h : 0 < x) : 0 < top9 x ∧ top9 x < 1000000000 := by
  induction x using Nat.strongRecOn with
  | ind x ih =>
    rcases Nat.lt_or_ge x 1000000000 with h1 | h1
    · rw [top9_small h1]; exact ⟨h, h1⟩
    · rw [top9_big h1]; exact ih (x / 1000000000) (by omega) (by omega)
set_option maxRecDepth 100000 in
theorem format_any {A : Option Addr} {n c x : Nat} {ds : List Nat} {w : World} (hx : Raw w (.slice A n c) ds) (hvx : Hid (val ds = x)) (hl : ds.length ≤ 1000) (htab : Lib.TabIs Tryz.prog w "internal/strconv.uint64pow10" .u64 Lib.pow10Tab) :
    Calls Tryz.prog 135 #[.slice A n c] w fun e w' => e = .returned (.string (strB (decT x))) ∧ Below w.heap.size w w' := by
  rcases Nat.eq_zero_or_pos x with rfl | h0
  · have hd : strB (decT 0) = ⟨#[48]⟩ := rfl
    rw [hd]
    clear htab hd
    go_enter Tryz.func135, Tryz.ntmps135
    go_wp2_with fail
    refine (norm_is hx hvx).mono ?_
    rintro e w1 ⟨v, rfl, hg, hb⟩
    obtain ⟨B, d, rfl⟩ := hg.form
    rw [digs_zero]
    clear hg
    go_wp2_with fail
    refine wp_loop_rounds 1 ?_
    rw [rounds_succ]
    go_wp2_with fail
    go_ret
    exact ⟨rfl, hb⟩
  · have hd : decT x = decs x := by unfold decT; rw [if_neg (by omega)]
    rw [hd]
    obtain ⟨h1, h2⟩ := top9_bounds x h0
    exact format_pos hx hvx h0 (appOk_any h1 (by omega) htab) hl
theorem decT_len {x L : Nat} (h : x < Bs L) : (decT x).length ≤ 10 * L + 1 := by
  unfold decT; split
  · simp
  · exact Nat.le_trans (decs_length (10 * L) x (Nat.lt_of_lt_of_le h (Bs_ten L))) (by omega)
end Go.Proofs.YtlpgbflajcfgpaaGreatDoor
namespace Go.Proofs.YtlpgbflajcfgpaaGreatDoor
open Go.RowKit

end Go.Proofs.YtlpgbflajcfgpaaGreatDoor
