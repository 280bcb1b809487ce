/-
  DivMod, Forms, Shift2 in one text.
-/
import Derived.Test.YthmmnmajkeoaaabGreatDoorODivLong
import Derived.Test.YthmmnmajkeoaaabGreatDoorOKB
import Derived.LoopN
namespace Go.Proofs.YthmmnmajkeoaaabGreatDoor
open Go.RowKit

set_option maxRecDepth 100000 in
set_option maxHeartbeats 800000 in
theorem divmod_long {A A' : Option Addr} {n n' c c' x y m r : Nat} {ds es : List Nat} {w : World} (hx : Raw w (.slice A n c) ds) (hy : Raw w (.slice A' n' c') es) (hvx : Hid (val ds = x)) (hvy : Hid (val es = y)) (hm : Hid ((digs y).length = m + 2)) (hr : Hid ((digs x).length = m + 2 + r)) (h9 : m + 2 + r ≤ 1000000) :
    Calls Tryz.prog 109 #[.slice A n c, .slice A' n' c'] w fun e w' => ∃ B k d B' k' d', e = .returned (.tuple #[.slice B k d, .slice B' k' d', .bool true]) ∧ Num w' (.slice B k d) (x / y) ∧ Num w' (.slice B' k' d') (x % y) ∧ Below w.heap.size w w' := by
  have h0 : ((m : Int) + 2 == 0) = false := by rw [beq_eq_false_iff_ne]; omega
  have h1 : ((m : Int) + 2 == 1) = false := by rw [beq_eq_false_iff_ne]; omega
  go_enter Tryz.func109, Tryz.ntmps109
  go_wp2_with fail
  refine (trim_is hx hvx).mono ?_
  rintro e w' ⟨rfl, hX, rfl⟩
  go_wp2_with fail
  refine (trim_is hy hvy).mono ?_
  rintro e w' ⟨rfl, hY, rfl⟩
  rw [hm.out] at hY ⊢
  rw [hr.out] at hX ⊢
  go_wp2_with fail
  refine (divlong_any hX hY rfl rfl h9).mono ?_
  rintro e w1 ⟨B, k, d, B', k', d', rfl, hQ, hR, hb⟩
  go_wp2_with fail
  go_ret3
  exact ⟨_, _, _, _, _, _, rfl, hQ, hR, hb⟩

theorem divmod_is {A A' : Option Addr} {n n' c c' x y : Nat} {ds es : List Nat} {w : World} (hx : Raw w (.slice A n c) ds) (hy : Raw w (.slice A' n' c') es) (hvx : Hid (val ds = x)) (hvy : Hid (val es = y)) (hy0 : 0 < y) (h9 : (digs x).length ≤ 1000000) :
    Calls Tryz.prog 109 #[.slice A n c, .slice A' n' c'] w fun e w' => ∃ B k d B' k' d', e = .returned (.tuple #[.slice B k d, .slice B' k' d', .bool true]) ∧ Num w' (.slice B k d) (x / y) ∧ Num w' (.slice B' k' d') (x % y) ∧ Below w.heap.size w w' := by
  have hl := digs_length_pos hy0
  rcases Nat.lt_or_ge (digs x).length (digs y).length with hlt | hge
  · exact divmod_less hx hy hvx hvy hlt
  · rcases Nat.lt_or_ge (digs y).length 2 with h1 | h2
    · have hy1 : y < 4294967296 := by
        have := lt_of_digs_length (show (digs y).length ≤ 1 by omega)
        rwa [Bs_one] at this
      exact divmod_digit hx hy hvx hvy hy0 hy1 (by omega)
    · obtain ⟨m, hm⟩ : ∃ m, (digs y).length = m + 2 := ⟨(digs y).length - 2, by omega⟩
      obtain ⟨r, hr⟩ : ∃ r, (digs x).length = m + 2 + r := ⟨(digs x).length - (m + 2), by omega⟩
      exact divmod_long hx hy hvx hvy (Lib.hid hm) (Lib.hid hr) (by omega)

section
variable {A A' : Option Addr} {n n' c c' x y L L' : Nat} {w : World}
theorem divmod_v (hx : RV w (.slice A n c) x L) (hy : RV w (.slice A' n' c') y L') (hy0 : 0 < y) (hL : L ≤ 1000000) :
    Calls Tryz.prog 109 #[.slice A n c, .slice A' n' c'] w fun e w' => ∃ B k d B' k' d', e = .returned (.tuple #[.slice B k d, .slice B' k' d', .bool true]) ∧ NV w' (.slice B k d) (x / y) L ∧ NV w' (.slice B' k' d') (x % y) L' ∧ Below w.heap.size w w' := by
  have h1 := hx.lt
  have h2 := hy.lt
  have h3 := digs_length_le h1
  obtain ⟨ds, a1, a2, a3⟩ := hx
  obtain ⟨es, b1, b2, b3⟩ := hy
  refine (divmod_is a1 b1 (Lib.hid a2) (Lib.hid b2) hy0 (by omega)).mono ?_
  rintro e w' ⟨B, k, d, B', k', d', rfl, hQ, hR, hb⟩
  exact ⟨B, k, d, B', k', d', rfl, ⟨hQ, Nat.lt_of_le_of_lt (Nat.div_le_self _ _) h1⟩, ⟨hR, Nat.lt_trans (Nat.mod_lt _ hy0) h2⟩, hb⟩
end
end Go.Proofs.YthmmnmajkeoaaabGreatDoor
namespace Go.Proofs.YthmmnmajkeoaaabGreatDoor
open Go.RowKit

/-- Whether the last digit is not 0. -/
def normB (ds : List Nat) : Bool := ds.length == 0 || ds.getD (ds.length - 1) 0 != 0

section
variable {A A' : Option Addr} {n n' c c' x y L L' : Nat} {ds : List Nat} {w : World}
set_option maxRecDepth 100000 in
theorem normal_any (h : Raw w (.slice A n c) ds) :
    Calls Tryz.prog 95 #[.slice A n c] w fun e w' => e = .returned (.bool (normB ds)) ∧ w = w' := by
  have hn := h.cap.1
  have hl := h.len
  rcases Nat.eq_zero_or_pos ds.length with h0 | h0
  · have hb : normB ds = true := by unfold normB; rw [h0]; rfl
    have hn0 : n = 0 := by omega
    subst hn0
    rw [hb]
    clear h hn hb h0 hl
    go_enter Tryz.func95, Tryz.ntmps95
    go_wp2_with fail
    go_ret
    exact ⟨rfl, rfl⟩
  · obtain ⟨ad, hA, _, hc⟩ := h.at_ (j := ds.length - 1) (by omega)
    subst hA
    obtain ⟨m, hm⟩ : ∃ m, ds.length = m + 1 := ⟨ds.length - 1, by omega⟩
    rw [hm, Nat.add_sub_cancel] at hc
    have hn1 : n = m + 1 := by omega
    subst hn1
    obtain ⟨d, hd⟩ : ∃ d, ds.getD m 0 = d := ⟨_, rfl⟩
    rw [hd] at hc
    have hb : normB ds = (d != 0) := by unfold normB; rw [hm, Nat.add_sub_cancel, hd]; simp
    have h00 : ((m : Int) + 1 == 0) = false := by rw [beq_eq_false_iff_ne]; omega
    have hm9 : m + 1 ≤ 1000000000 := by omega
    have HB := Lib.hid hb
    clear h hn hb h0 hl hm hd
    by_cases hz : d = 0
    · subst hz
      go_enter Tryz.func95, Tryz.ntmps95
      go_wp2_with fail
      go_ret
      exact ⟨by rw [HB.out]; rfl, rfl⟩
    · have hdz : ((d : Int) != 0) = true := by rw [bne_iff_ne]; omega
      have hres : (d != 0) = true := by rw [bne_iff_ne]; exact hz
      have HR := Lib.hid hres
      clear hres hz
      go_enter Tryz.func95, Tryz.ntmps95
      go_wp2_with fail
      go_ret
      exact ⟨by rw [HB.out, HR.out]; rfl, rfl⟩
set_option maxRecDepth 100000 in
theorem uint_small (hx : RV w (.slice A n c) x L) (h : x < 18446744073709551616) :
    Calls Tryz.prog 122 #[.slice A n c] w fun e w' => e = .returned (.tuple #[.int .u64 (x : Int), .bool true]) ∧ Below w.heap.size w w' := by
  obtain ⟨ds, h1, h2, h3⟩ := hx
  have hl : (digs x).length ≤ 2 := digs_length_le (by rw [Bs_two]; exact h)
  obtain ⟨d1, e1⟩ : ∃ d, (digs x).getD 1 0 = d := ⟨_, rfl⟩
  obtain ⟨d0, e0⟩ : ∃ d, (digs x).getD 0 0 = d := ⟨_, rfl⟩
  have b1 : d1 < 4294967296 := by rw [← e1]; exact okD_getD (okD_digs x) _
  have b0 : d0 < 4294967296 := by rw [← e0]; exact okD_getD (okD_digs x) _
  have hv : d1 * 4294967296 + d0 = x := by
    rw [← e1, ← e0, digs_digit, digs_digit, Bs_one, Bs_zero]; omega
  have hor := or_shift d1 d0 b1 b0
  rw [hv] at hor
  have E1 := Lib.hid e1
  have E0 := Lib.hid e0
  clear e1 e0 hv h
  go_enter Tryz.func122, Tryz.ntmps122
  go_wp2_with fail
  refine (trim_is h1 (Lib.hid h2)).mono ?_
  rintro e w' ⟨rfl, hX, rfl⟩
  go_wp2_with fail
  refine (digit_is hX (i := 1) E1).mono ?_
  rintro e w' ⟨rfl, rfl⟩
  go_wp2_with fail
  refine (digit_is hX (i := 0) E0).mono ?_
  rintro e w' ⟨rfl, rfl⟩
  go_wp2_with fail
  go_ret2
  exact ⟨rfl, Below.refl _ _⟩
set_option maxRecDepth 100000 in
theorem uint_big (hx : RV w (.slice A n c) x L) (h : 18446744073709551616 ≤ x) :
    Calls Tryz.prog 122 #[.slice A n c] w fun e w' => e = .returned (.tuple #[.int .u64 0, .bool false]) ∧ Below w.heap.size w w' := by
  obtain ⟨ds, h1, h2, h3⟩ := hx
  have hl : 2 < (digs x).length := by
    rcases Nat.lt_or_ge 2 (digs x).length with h4 | h4
    · exact h4
    · have := lt_of_digs_length h4
      rw [Bs_two] at this
      omega
  clear h
  go_enter Tryz.func122, Tryz.ntmps122
  go_wp2_with fail
  refine (trim_is h1 (Lib.hid h2)).mono ?_
  rintro e w' ⟨rfl, hX, rfl⟩
  go_wp2_with fail
  go_ret2
  exact ⟨rfl, Below.refl _ _⟩
theorem n_v (hx : RV w (.slice A n c) x L) :
    Calls Tryz.prog 53 #[.slice A n c] w fun e w' => ∃ B k d, e = .returned (.slice B k d) ∧ NV w' (.slice B k d) x L ∧ Below w.heap.size w w' := by
  have hb := hx.lt
  obtain ⟨ds, h1, h2, h3⟩ := hx
  refine (n_is h1 (Lib.hid h2)).mono ?_
  rintro e w' ⟨B, k, d, rfl, hN, hbl⟩
  exact ⟨B, k, d, rfl, ⟨hN, hb⟩, hbl⟩
theorem fromuint_v (u : Nat) (hu : u < 18446744073709551616) (w : World) :
    Calls Tryz.prog 83 #[.int .u64 (u : Int)] w fun e w' => ∃ B k d, e = .returned (.slice B k d) ∧ NV w' (.slice B k d) u 2 ∧ Below w.heap.size w w' := by
  refine (fromuint_any u hu w).mono ?_
  rintro e w' ⟨B, k, d, rfl, hN, hbl⟩
  exact ⟨B, k, d, rfl, ⟨hN, by rw [Bs_two]; exact hu⟩, hbl⟩
theorem word_v (u : Nat) (hu : u < 18446744073709551616) (w : World) :
    Calls Tryz.prog 65 #[.int .u64 (u : Int)] w fun e w' => ∃ B k d, e = .returned (.slice B k d) ∧ NV w' (.slice B k d) u 2 ∧ Below w.heap.size w w' := by
  refine (word_any u hu w).mono ?_
  rintro e w' ⟨B, k, d, rfl, hN, hbl⟩
  exact ⟨B, k, d, rfl, ⟨hN, by rw [Bs_two]; exact hu⟩, hbl⟩
end
end Go.Proofs.YthmmnmajkeoaaabGreatDoor
namespace Go.Proofs.YthmmnmajkeoaaabGreatDoor
open Go.RowKit

theorem pow_le_Bs {k i : Nat} (h : k ≤ 32 * i) : 2 ^ k ≤ Bs i := by rw [Bs_pow]; exact Nat.pow_le_pow_right Nat.two_pos h
/-- The number of binary digits of a number above 0, from its highest digit. -/
def topBits (x : Nat) : Nat := ((digs x).length - 1) * 32 + Lib.bitLen ((digs x).getD ((digs x).length - 1) 0)
def bitsN (x : Nat) : Nat := if x = 0 then 0 else topBits x

theorem len32_any (t : Nat) (h1 : t < 4294967296) (w : World) :
    Calls Tryz.prog 134 #[.int .u32 (t : Int)] w fun e w' => e = .returned (.int .i64 (Lib.bitLen t : Nat)) ∧ Lib.bitLen t ≤ 32 ∧ w = w' := by
  refine (Tryz.bits_Len32 (t : Int) w (by omega) (by omega)).mono ?_
  rintro e w' ⟨rfl, rfl⟩
  rw [Int.toNat_natCast]
  exact ⟨rfl, Lib.bitLen_le t 32 (by omega) (by omega), rfl⟩

section
variable {A A' : Option Addr} {n n' c c' x y L L' : Nat} {ds : List Nat} {w : World}
set_option maxRecDepth 100000 in
theorem bits_v (hx : RV w (.slice A n c) x L) :
    Calls Tryz.prog 121 #[.slice A n c] w fun e w' => e = .returned (.int .i64 (bitsN x : Nat)) ∧ Below w.heap.size w w' := by
  obtain ⟨ds, h1, h2, h3⟩ := hx
  have hl9 : (digs x).length ≤ 1000000000 := by
    rw [← h2]; exact Nat.le_trans (digs_length_le (val_lt h1.okD)) h1.len
  have HX2 := Lib.hid h2
  rcases Nat.eq_zero_or_pos x with rfl | hx0
  · have hb : bitsN 0 = 0 := rfl
    rw [hb]
    go_enter Tryz.func121, Tryz.ntmps121
    go_wp2_with fail
    refine (trim_is h1 HX2).mono ?_
    rintro e w' ⟨rfl, hX, rfl⟩
    rw [digs_zero]
    clear h2 HX2
    go_wp2_with fail
    go_ret
    exact ⟨rfl, Below.refl _ _⟩
  · obtain ⟨m, hm⟩ : ∃ m, (digs x).length = m + 1 := ⟨(digs x).length - 1, by have := digs_length_pos hx0; omega⟩
    obtain ⟨t, ht⟩ : ∃ t, (digs x).getD m 0 = t := ⟨_, rfl⟩
    have htb : t < 4294967296 := by rw [← ht]; exact okD_getD (okD_digs x) m
    have hb : bitsN x = m * 32 + Lib.bitLen t := by unfold bitsN topBits; rw [if_neg (by omega), hm, Nat.add_sub_cancel, ht]
    have h00 : ((m : Int) + 1 == 0) = false := by rw [beq_eq_false_iff_ne]; omega
    have hm9 : m + 1 ≤ 1000000000 := by omega
    have HB := Lib.hid hb
    have HL := Lib.hid (len32_any t htb)
    have HT := Lib.hid ht
    have HM := Lib.hid hm
    clear hb hm ht hl9 h2
    go_enter Tryz.func121, Tryz.ntmps121
    go_wp2_with fail
    refine (trim_is h1 HX2).mono ?_
    rintro e w' ⟨rfl, hX, rfl⟩
    obtain ⟨ad, hA, _, hc⟩ := Raw.at_ hX (j := m) (by rw [HM.out]; omega)
    subst hA
    rw [HT.out] at hc
    rw [HM.out]
    clear hX h1
    go_wp2_with fail
    refine (HL.out _).mono ?_
    rintro e w' ⟨rfl, hbl, rfl⟩
    generalize Lib.bitLen t = bl at *
    go_wp2_with fail
    go_ret
    exact ⟨ret_i64' (by rw [HB.out]; omega), Below.refl _ _⟩
theorem shr_v (hx : RV w (.slice A n c) x L) (k : Nat) (hk : k < 18446744073709551616) :
    Calls Tryz.prog 136 #[.slice A n c, .int .u64 (k : Int)] w fun e w' => ∃ B m d, e = .returned (.slice B m d) ∧ NV w' (.slice B m d) (x / 2 ^ k) L ∧ Below w.heap.size w w' := by
  have hb : x / 2 ^ k < Bs L := Nat.lt_of_le_of_lt (Nat.div_le_self _ _) hx.lt
  obtain ⟨ds, h1, h2, h3⟩ := hx
  refine (shr_is h1 (Lib.hid h2) k hk).mono ?_
  rintro e w' ⟨B, m, d, rfl, hN, hbl⟩
  exact ⟨_, _, _, rfl, ⟨hN, hb⟩, hbl⟩
end
end Go.Proofs.YthmmnmajkeoaaabGreatDoor
