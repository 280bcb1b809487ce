/-
  The contracts of Small, Normal, Uint and same.
-/
import Derived.Test.YtacfdcfkfjildaaDoorVals
import Derived.LoopN
namespace Go.Proofs.YtacfdcfkfjildaaDoor
open Go.RowKit

set_option maxRecDepth 100000 in
theorem small_yes {A : Option Addr} {n c g : Nat} {w : World} (hc : w.cell? ⟨g, 0, none⟩ = some (.slice A n c)) (hn : n ≤ 40) :
    Calls Tryd.prog 14 #[.int .i64 40, .slice (some ⟨g, 0, none⟩) 1 1] w fun e w' => e = .returned (.bool true) ∧ w = w' := by
  go_enter Tryd.func14, Tryd.ntmps14
  go_wp2_with fail
  refine wp_loop_rounds 2 ?_
  rw [rounds_succ]
  go_wp2_with fail
  rw [rounds_succ]
  go_wp2_with fail
  go_ret
  exact ⟨rfl, rfl⟩
set_option maxRecDepth 100000 in
theorem small_no {A : Option Addr} {n c g : Nat} {w : World} (hc : w.cell? ⟨g, 0, none⟩ = some (.slice A n c)) (hn : 40 < n) :
    Calls Tryd.prog 14 #[.int .i64 40, .slice (some ⟨g, 0, none⟩) 1 1] w fun e w' => e = .returned (.bool false) ∧ w = w' := by
  go_enter Tryd.func14, Tryd.ntmps14
  go_wp2_with fail
  refine wp_loop_rounds 1 ?_
  rw [rounds_succ]
  go_wp2_with fail
  go_ret
  exact ⟨rfl, rfl⟩

/-- Whether the last digit is not 0. -/
def normB (ds : List Nat) : Bool := ds.length == 0 || ds.getD (ds.length - 1) 0 != 0

section
variable {A A' : Option Addr} {n n' c c' x y L L' : Nat} {ds : List Nat} {w : World}
set_option maxRecDepth 100000 in
theorem normal_any (h : Raw w (.slice A n c) ds) :
    Calls Tryd.prog 108 #[.slice A n c] w fun e w' => e = .returned (.bool (normB ds)) ∧ w = w' := by
  have hn := h.cap.1
  have hl := h.len
  rcases Nat.eq_zero_or_pos ds.length with h0 | h0
  · have hb : normB ds = true := by unfold normB; rw [h0]; rfl
    have hn0 : n = 0 := by omega
    subst hn0
    rw [hb]
    clear h hn hb h0 hl
    go_enter Tryd.func108, Tryd.ntmps108
    go_wp2_with fail
    go_ret
    exact ⟨rfl, rfl⟩
  · obtain ⟨ad, hA, _, hc⟩ := h.at_ (j := ds.length - 1) (by omega)
    subst hA
    obtain ⟨m, hm⟩ : ∃ m, ds.length = m + 1 := ⟨ds.length - 1, by omega⟩
    rw [hm, Nat.add_sub_cancel] at hc
    have hn1 : n = m + 1 := by omega
    subst hn1
    obtain ⟨d, hd⟩ : ∃ d, ds.getD m 0 = d := ⟨_, rfl⟩
    rw [hd] at hc
    have hb : normB ds = (d != 0) := by unfold normB; rw [hm, Nat.add_sub_cancel, hd]; simp
    have h00 : ((m : Int) + 1 == 0) = false := by rw [beq_eq_false_iff_ne]; omega
    have hm9 : m + 1 ≤ 1000000000 := by omega
    have HB := Lib.hid hb
    clear h hn hb h0 hl hm hd
    by_cases hz : d = 0
    · subst hz
      go_enter Tryd.func108, Tryd.ntmps108
      go_wp2_with fail
      go_ret
      exact ⟨by rw [HB.out]; rfl, rfl⟩
    · have hdz : ((d : Int) != 0) = true := by rw [bne_iff_ne]; omega
      have hres : (d != 0) = true := by rw [bne_iff_ne]; exact hz
      have HR := Lib.hid hres
      clear hres hz
      go_enter Tryd.func108, Tryd.ntmps108
      go_wp2_with fail
      go_ret
      exact ⟨by rw [HB.out, HR.out]; rfl, rfl⟩
set_option maxRecDepth 100000 in
theorem normaln_any (h : Raw w (.slice A n c) ds) :
    Calls Tryd.prog 109 #[.slice A n c] w fun e w' => e = .returned (.bool (normB ds)) ∧ w = w' := by
  have hn := h.cap.1
  have hl := h.len
  rcases Nat.eq_zero_or_pos ds.length with h0 | h0
  · have hb : normB ds = true := by unfold normB; rw [h0]; rfl
    have hn0 : n = 0 := by omega
    subst hn0
    rw [hb]
    clear h hn hb h0 hl
    go_enter Tryd.func109, Tryd.ntmps109
    go_wp2_with fail
    go_ret
    exact ⟨rfl, rfl⟩
  · obtain ⟨ad, hA, _, hc⟩ := h.at_ (j := ds.length - 1) (by omega)
    subst hA
    obtain ⟨m, hm⟩ : ∃ m, ds.length = m + 1 := ⟨ds.length - 1, by omega⟩
    rw [hm, Nat.add_sub_cancel] at hc
    have hn1 : n = m + 1 := by omega
    subst hn1
    obtain ⟨d, hd⟩ : ∃ d, ds.getD m 0 = d := ⟨_, rfl⟩
    rw [hd] at hc
    have hb : normB ds = (d != 0) := by unfold normB; rw [hm, Nat.add_sub_cancel, hd]; simp
    have h00 : ((m : Int) + 1 == 0) = false := by rw [beq_eq_false_iff_ne]; omega
    have hm9 : m + 1 ≤ 1000000000 := by omega
    have HB := Lib.hid hb
    clear h hn hb h0 hl hm hd
    by_cases hz : d = 0
    · subst hz
      go_enter Tryd.func109, Tryd.ntmps109
      go_wp2_with fail
      go_ret
      exact ⟨by rw [HB.out]; rfl, rfl⟩
    · have hdz : ((d : Int) != 0) = true := by rw [bne_iff_ne]; omega
      have hres : (d != 0) = true := by rw [bne_iff_ne]; exact hz
      have HR := Lib.hid hres
      clear hres hz
      go_enter Tryd.func109, Tryd.ntmps109
      go_wp2_with fail
      go_ret
      exact ⟨by rw [HB.out, HR.out]; rfl, rfl⟩
set_option maxRecDepth 100000 in
theorem uint_small (hx : RV w (.slice A n c) x L) (h : x < 18446744073709551616) :
    Calls Tryd.prog 92 #[.slice A n c] w fun e w' => e = .returned (.tuple #[.int .u64 (x : Int), .bool true]) ∧ Below w.heap.size w w' := by
  obtain ⟨ds, h1, h2, h3⟩ := hx
  have hl : (digs x).length ≤ 2 := digs_length_le (by rw [Bs_two]; exact h)
  obtain ⟨d1, e1⟩ : ∃ d, (digs x).getD 1 0 = d := ⟨_, rfl⟩
  obtain ⟨d0, e0⟩ : ∃ d, (digs x).getD 0 0 = d := ⟨_, rfl⟩
  have b1 : d1 < 4294967296 := by rw [← e1]; exact okD_getD (okD_digs x) _
  have b0 : d0 < 4294967296 := by rw [← e0]; exact okD_getD (okD_digs x) _
  have hv : d1 * 4294967296 + d0 = x := by
    rw [← e1, ← e0, digs_digit, digs_digit, Bs_one, Bs_zero]; omega
  have hor := or_shift d1 d0 b1 b0
  rw [hv] at hor
  have E1 := Lib.hid e1
  have E0 := Lib.hid e0
  clear e1 e0 hv h
  go_enter Tryd.func92, Tryd.ntmps92
  go_wp2_with fail
  refine (trim_is h1 (Lib.hid h2)).mono ?_
  rintro e w' ⟨rfl, hX, rfl⟩
  go_wp2_with fail
  refine (digit_is hX (i := 1) E1).mono ?_
  rintro e w' ⟨rfl, rfl⟩
  go_wp2_with fail
  refine (digit_is hX (i := 0) E0).mono ?_
  rintro e w' ⟨rfl, rfl⟩
  go_wp2_with fail
  go_ret2
  exact ⟨rfl, Below.refl _ _⟩
set_option maxRecDepth 100000 in
theorem uint_big (hx : RV w (.slice A n c) x L) (h : 18446744073709551616 ≤ x) :
    Calls Tryd.prog 92 #[.slice A n c] w fun e w' => e = .returned (.tuple #[.int .u64 0, .bool false]) ∧ Below w.heap.size w w' := by
  obtain ⟨ds, h1, h2, h3⟩ := hx
  have hl : 2 < (digs x).length := by
    rcases Nat.lt_or_ge 2 (digs x).length with h4 | h4
    · exact h4
    · have := lt_of_digs_length h4
      rw [Bs_two] at this
      omega
  clear h
  go_enter Tryd.func92, Tryd.ntmps92
  go_wp2_with fail
  refine (trim_is h1 (Lib.hid h2)).mono ?_
  rintro e w' ⟨rfl, hX, rfl⟩
  go_wp2_with fail
  go_ret2
  exact ⟨rfl, Below.refl _ _⟩
set_option maxRecDepth 100000 in
/-- same: a result and a number of the reference, of one value. -/
theorem samelaw_v (hx : NV w (.slice A n c) x L) (hy : NV w (.slice A' n' c') y L') (he : x = y) (hL : L' ≤ 1000000) :
    Calls Tryd.prog 21 #[.slice A n c, .slice A' n' c'] w fun e w' => e = .returned (.bool true) ∧ Below w.heap.size w w' := by
  subst he
  go_enter Tryd.func21, Tryd.ntmps21
  go_wp2_with fail
  refine (ton_any hy.1).mono ?_
  rintro e w1 ⟨v, rfl, hg, hb⟩
  obtain ⟨B, d, rfl⟩ := hg.form
  have hl := digs_length_le hy.2
  have hr := hg.raw (by omega)
  have hx1 := hx.below hb
  go_wp2_with fail
  refine (same_true hx1.1 hr).mono ?_
  rintro e w2 ⟨rfl, j, rfl⟩
  have hbf := below_drewN hb j
  go_wp2_with fail
  go_ret
  exact ⟨rfl, hbf⟩
theorem n_v (hx : RV w (.slice A n c) x L) :
    Calls Tryd.prog 16 #[.slice A n c] w fun e w' => ∃ B k d, e = .returned (.slice B k d) ∧ NV w' (.slice B k d) x L ∧ Below w.heap.size w w' := by
  have hb := hx.lt
  obtain ⟨ds, h1, h2, h3⟩ := hx
  refine (n_is h1 (Lib.hid h2)).mono ?_
  rintro e w' ⟨B, k, d, rfl, hN, hbl⟩
  exact ⟨B, k, d, rfl, ⟨hN, hb⟩, hbl⟩
theorem fromuint_v (u : Nat) (hu : u < 18446744073709551616) (w : World) :
    Calls Tryd.prog 80 #[.int .u64 (u : Int)] w fun e w' => ∃ B k d, e = .returned (.slice B k d) ∧ NV w' (.slice B k d) u 2 ∧ Below w.heap.size w w' := by
  refine (fromuint_any u hu w).mono ?_
  rintro e w' ⟨B, k, d, rfl, hN, hbl⟩
  exact ⟨B, k, d, rfl, ⟨hN, by rw [Bs_two]; exact hu⟩, hbl⟩
theorem word_v (u : Nat) (hu : u < 18446744073709551616) (w : World) :
    Calls Tryd.prog 42 #[.int .u64 (u : Int)] w fun e w' => ∃ B k d, e = .returned (.slice B k d) ∧ NV w' (.slice B k d) u 2 ∧ Below w.heap.size w w' := by
  refine (word_any u hu w).mono ?_
  rintro e w' ⟨B, k, d, rfl, hN, hbl⟩
  exact ⟨B, k, d, rfl, ⟨hN, by rw [Bs_two]; exact hu⟩, hbl⟩
end
end Go.Proofs.YtacfdcfkfjildaaDoor
