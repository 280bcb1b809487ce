/-
  The contracts of Small, Normal, Uint and same.
-/
import Derived.Test.YtfonldogbfkpiaaGreatK3
import Derived.LoopN
namespace Go.Proofs.YtfonldogbfkpiaaGreat
open Go.RowKit

/-- Whether the last digit is not 0. -/
def normB (ds : List Nat) : Bool := ds.length == 0 || ds.getD (ds.length - 1) 0 != 0

section
variable {A A' : Option Addr} {n n' c c' x y L L' : Nat} {ds : List Nat} {w : World}
set_option maxRecDepth 100000 in
theorem normal_any (h : Raw w (.slice A n c) ds) :
    Calls Tryz.prog 75 #[.slice A n c] w fun e w' => e = .returned (.bool (normB ds)) ∧ w = w' := by
  have hn := h.cap.1
  have hl := h.len
  rcases Nat.eq_zero_or_pos ds.length with h0 | h0
  · have hb : normB ds = true := by unfold normB; rw [h0]; rfl
    have hn0 : n = 0 := by omega
    subst hn0
    rw [hb]
    clear h hn hb h0 hl
    go_enter Tryz.func75, Tryz.ntmps75
    go_wp2_with fail
    go_ret
    exact ⟨rfl, rfl⟩
  · obtain ⟨ad, hA, _, hc⟩ := h.at_ (j := ds.length - 1) (by omega)
    subst hA
    obtain ⟨m, hm⟩ : ∃ m, ds.length = m + 1 := ⟨ds.length - 1, by omega⟩
    rw [hm, Nat.add_sub_cancel] at hc
    have hn1 : n = m + 1 := by omega
    subst hn1
    obtain ⟨d, hd⟩ : ∃ d, ds.getD m 0 = d := ⟨_, rfl⟩
    rw [hd] at hc
    have hb : normB ds = (d != 0) := by unfold normB; rw [hm, Nat.add_sub_cancel, hd]; simp
    have h00 : ((m : Int) + 1 == 0) = false := by rw [beq_eq_false_iff_ne]; omega
    have hm9 : m + 1 ≤ 1000000000 := by omega
    have HB := Lib.hid hb
    clear h hn hb h0 hl hm hd
    by_cases hz : d = 0
    · subst hz
      go_enter Tryz.func75, Tryz.ntmps75
      go_wp2_with fail
      go_ret
      exact ⟨by rw [HB.out]; rfl, rfl⟩
    · have hdz : ((d : Int) != 0) = true := by rw [bne_iff_ne]; omega
      have hres : (d != 0) = true := by rw [bne_iff_ne]; exact hz
      have HR := Lib.hid hres
      clear hres hz
      go_enter Tryz.func75, Tryz.ntmps75
      go_wp2_with fail
      go_ret
      exact ⟨by rw [HB.out, HR.out]; rfl, rfl⟩
set_option maxRecDepth 100000 in
theorem uint_small (hx : RV w (.slice A n c) x L) (h : x < 18446744073709551616) :
    Calls Tryz.prog 132 #[.slice A n c] w fun e w' => e = .returned (.tuple #[.int .u64 (x : Int), .bool true]) ∧ Below w.heap.size w w' := by
  obtain ⟨ds, h1, h2, h3⟩ := hx
  have hl : (digs x).length ≤ 2 := digs_length_le (by rw [Bs_two]; exact h)
  obtain ⟨d1, e1⟩ : ∃ d, (digs x).getD 1 0 = d := ⟨_, rfl⟩
  obtain ⟨d0, e0⟩ : ∃ d, (digs x).getD 0 0 = d := ⟨_, rfl⟩
  have b1 : d1 < 4294967296 := by rw [← e1]; exact okD_getD (okD_digs x) _
  have b0 : d0 < 4294967296 := by rw [← e0]; exact okD_getD (okD_digs x) _
  have hv : d1 * 4294967296 + d0 = x := by
    rw [← e1, ← e0, digs_digit, digs_digit, Bs_one, Bs_zero]; omega
  have hor := or_shift d1 d0 b1 b0
  rw [hv] at hor
  have E1 := Lib.hid e1
  have E0 := Lib.hid e0
  clear e1 e0 hv h
  go_enter Tryz.func132, Tryz.ntmps132
  go_wp2_with fail
  refine (trim_is h1 (Lib.hid h2)).mono ?_
  rintro e w' ⟨rfl, hX, rfl⟩
  go_wp2_with fail
  refine (digit_is hX (i := 1) E1).mono ?_
  rintro e w' ⟨rfl, rfl⟩
  go_wp2_with fail
  refine (digit_is hX (i := 0) E0).mono ?_
  rintro e w' ⟨rfl, rfl⟩
  go_wp2_with fail
  go_ret2
  exact ⟨rfl, Below.refl _ _⟩
set_option maxRecDepth 100000 in
theorem uint_big (hx : RV w (.slice A n c) x L) (h : 18446744073709551616 ≤ x) :
    Calls Tryz.prog 132 #[.slice A n c] w fun e w' => e = .returned (.tuple #[.int .u64 0, .bool false]) ∧ Below w.heap.size w w' := by
  obtain ⟨ds, h1, h2, h3⟩ := hx
  have hl : 2 < (digs x).length := by
    rcases Nat.lt_or_ge 2 (digs x).length with h4 | h4
    · exact h4
    · have := lt_of_digs_length h4
      rw [Bs_two] at this
      omega
  clear h
  go_enter Tryz.func132, Tryz.ntmps132
  go_wp2_with fail
  refine (trim_is h1 (Lib.hid h2)).mono ?_
  rintro e w' ⟨rfl, hX, rfl⟩
  go_wp2_with fail
  go_ret2
  exact ⟨rfl, Below.refl _ _⟩
theorem fromuint_v (u : Nat) (hu : u < 18446744073709551616) (w : World) :
    Calls Tryz.prog 78 #[.int .u64 (u : Int)] w fun e w' => ∃ B k d, e = .returned (.slice B k d) ∧ NV w' (.slice B k d) u 2 ∧ Below w.heap.size w w' := by
  refine (fromuint_any u hu w).mono ?_
  rintro e w' ⟨B, k, d, rfl, hN, hbl⟩
  exact ⟨B, k, d, rfl, ⟨hN, by rw [Bs_two]; exact hu⟩, hbl⟩
theorem word_v (u : Nat) (hu : u < 18446744073709551616) (w : World) :
    Calls Tryz.prog 67 #[.int .u64 (u : Int)] w fun e w' => ∃ B k d, e = .returned (.slice B k d) ∧ NV w' (.slice B k d) u 2 ∧ Below w.heap.size w w' := by
  refine (word_any u hu w).mono ?_
  rintro e w' ⟨B, k, d, rfl, hN, hbl⟩
  exact ⟨B, k, d, rfl, ⟨hN, by rw [Bs_two]; exact hu⟩, hbl⟩
end
end Go.Proofs.YtfonldogbfkpiaaGreat
