/-
  The contracts of Bits, Shl, and of the reference's Bits, Right and Left.
-/
import Derived.Test.YtfonldogbfkpiaaGreatDivLong
import Derived.Test.YtfonldogbfkpiaaGreatForms
namespace Go.Proofs.YtfonldogbfkpiaaGreat
open Go.RowKit

theorem pow_le_Bs {k i : Nat} (h : k ≤ 32 * i) : 2 ^ k ≤ Bs i := by rw [Bs_pow]; exact Nat.pow_le_pow_right Nat.two_pos h
/-- The number of binary digits of a number above 0, from its highest digit. -/
def topBits (x : Nat) : Nat := ((digs x).length - 1) * 32 + Lib.bitLen ((digs x).getD ((digs x).length - 1) 0)
def bitsN (x : Nat) : Nat := if x = 0 then 0 else topBits x

theorem len32_any (t : Nat) (h1 : t < 4294967296) (w : World) :
    Calls Tryz.prog 88 #[.int .u32 (t : Int)] w fun e w' => e = .returned (.int .i64 (Lib.bitLen t : Nat)) ∧ Lib.bitLen t ≤ 32 ∧ w = w' := by
  refine (Tryz.bits_Len32 (t : Int) w (by omega) (by omega)).mono ?_
  rintro e w' ⟨rfl, rfl⟩
  rw [Int.toNat_natCast]
  exact ⟨rfl, Lib.bitLen_le t 32 (by omega) (by omega), rfl⟩

section
variable {A A' : Option Addr} {n n' c c' x y L L' : Nat} {ds : List Nat} {w : World}
set_option maxRecDepth 100000 in
theorem bits_v (hx : RV w (.slice A n c) x L) :
    Calls Tryz.prog 94 #[.slice A n c] w fun e w' => e = .returned (.int .i64 (bitsN x : Nat)) ∧ Below w.heap.size w w' := by
  obtain ⟨ds, h1, h2, h3⟩ := hx
  have hl9 : (digs x).length ≤ 1000000000 := by
    rw [← h2]; exact Nat.le_trans (digs_length_le (val_lt h1.okD)) h1.len
  have HX2 := Lib.hid h2
  rcases Nat.eq_zero_or_pos x with rfl | hx0
  · have hb : bitsN 0 = 0 := rfl
    rw [hb]
    go_enter Tryz.func94, Tryz.ntmps94
    go_wp2_with fail
    refine (trim_is h1 HX2).mono ?_
    rintro e w' ⟨rfl, hX, rfl⟩
    rw [digs_zero]
    clear h2 HX2
    go_wp2_with fail
    go_ret
    exact ⟨rfl, Below.refl _ _⟩
  · obtain ⟨m, hm⟩ : ∃ m, (digs x).length = m + 1 := ⟨(digs x).length - 1, by have := digs_length_pos hx0; omega⟩
    obtain ⟨t, ht⟩ : ∃ t, (digs x).getD m 0 = t := ⟨_, rfl⟩
    have htb : t < 4294967296 := by rw [← ht]; exact okD_getD (okD_digs x) m
    have hb : bitsN x = m * 32 + Lib.bitLen t := by unfold bitsN topBits; rw [if_neg (by omega), hm, Nat.add_sub_cancel, ht]
    have h00 : ((m : Int) + 1 == 0) = false := by rw [beq_eq_false_iff_ne]; omega
    have hm9 : m + 1 ≤ 1000000000 := by omega
    have HB := Lib.hid hb
    have HL := Lib.hid (len32_any t htb)
    have HT := Lib.hid ht
    have HM := Lib.hid hm
    clear hb hm ht hl9 h2
    go_enter Tryz.func94, Tryz.ntmps94
    go_wp2_with fail
    refine (trim_is h1 HX2).mono ?_
    rintro e w' ⟨rfl, hX, rfl⟩
    obtain ⟨ad, hA, _, hc⟩ := Raw.at_ hX (j := m) (by rw [HM.out]; omega)
    subst hA
    rw [HT.out] at hc
    rw [HM.out]
    clear hX h1
    go_wp2_with fail
    refine (HL.out _).mono ?_
    rintro e w' ⟨rfl, hbl, rfl⟩
    generalize Lib.bitLen t = bl at *
    go_wp2_with fail
    go_ret
    exact ⟨ret_i64' (by rw [HB.out]; omega), Below.refl _ _⟩
theorem shr_v (hx : RV w (.slice A n c) x L) (k : Nat) (hk : k < 18446744073709551616) :
    Calls Tryz.prog 140 #[.slice A n c, .int .u64 (k : Int)] w fun e w' => ∃ B m d, e = .returned (.slice B m d) ∧ NV w' (.slice B m d) (x / 2 ^ k) L ∧ Below w.heap.size w w' := by
  have hb : x / 2 ^ k < Bs L := Nat.lt_of_le_of_lt (Nat.div_le_self _ _) hx.lt
  obtain ⟨ds, h1, h2, h3⟩ := hx
  refine (shr_is h1 (Lib.hid h2) k hk).mono ?_
  rintro e w' ⟨B, m, d, rfl, hN, hbl⟩
  exact ⟨_, _, _, rfl, ⟨hN, hb⟩, hbl⟩
end
end Go.Proofs.YtfonldogbfkpiaaGreat
