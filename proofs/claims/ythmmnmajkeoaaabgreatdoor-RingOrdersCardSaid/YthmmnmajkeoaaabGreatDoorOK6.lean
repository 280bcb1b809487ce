/-
  Word, LongM, Long, Divide, DivideW, DivideO in one text.
-/
import Derived.Test.YthmmnmajkeoaaabGreatDoorOBox
import Derived.Test.YthmmnmajkeoaaabGreatDoorOK5
namespace Go.Proofs.YthmmnmajkeoaaabGreatDoor
open Go.RowKit

set_option maxRecDepth 100000 in
set_option maxHeartbeats 800000 in
theorem nword_small {A : Option Addr} {n c x : Nat} {w : World} (hX : Num w (.slice A n c) x) (h : n ≤ 2) :
    Calls Tryz.prog 115 #[.slice A n c] w fun e w' => e = .returned (.tuple #[.int .u64 (x : Int), .bool true]) ∧ ∃ j, w' = w.drewN j := by
  have hlx := (Raw.cap hX).1
  obtain ⟨d1, e1⟩ : ∃ d, (digs x).getD 1 0 = d := ⟨_, rfl⟩
  obtain ⟨d0, e0⟩ : ∃ d, (digs x).getD 0 0 = d := ⟨_, rfl⟩
  have b1 : d1 < 4294967296 := by rw [← e1]; exact okD_getD (okD_digs x) _
  have b0 : d0 < 4294967296 := by rw [← e0]; exact okD_getD (okD_digs x) _
  have hx2 : x < 18446744073709551616 := by have := lt_of_digs_length (x := x) (k := 2) (by omega); rwa [Bs_two] at this
  have hv : d1 * 4294967296 + d0 = x := by
    rw [← e1, ← e0, digs_digit, digs_digit, Bs_one, Bs_zero]; omega
  have hor := or_shift d1 d0 b1 b0
  rw [hv] at hor
  have c1 : 1 < n → ∃ ad, A = some ad ∧ w.cell? (ad.add 1) = some (.int .u32 (d1 : Int)) := fun h1 => by
    obtain ⟨ad, q1, _, q2⟩ := Raw.at_ (j := 1) hX (by omega)
    exact ⟨ad, q1, by rw [q2, e1]⟩
  have c0 : 0 < n → ∃ ad, A = some ad ∧ w.cell? ad = some (.int .u32 (d0 : Int)) := fun h1 => by
    obtain ⟨ad, q1, _, q2⟩ := Raw.at_ (j := 0) hX (by omega)
    exact ⟨ad, q1, by rw [show ad = ad.add 0 from rfl, q2, e0]⟩
  have hz1 : n ≤ 1 → d1 = 0 := fun h1 => by rw [← e1]; exact getD_of_ge (by omega)
  have hz0 : n = 0 → d0 = 0 := fun h1 => by rw [← e0]; exact getD_of_ge (by omega)
  clear e1 e0
  have h3 : n = 0 ∨ n = 1 ∨ n = 2 := by omega
  rcases h3 with rfl | rfl | rfl
  · have q1 := hz1 (by omega)
    have q0 := hz0 (by omega)
    obtain rfl : x = 0 := by omega
    clear c1 c0 hz1 hz0 hor hv hlx
    go_enter Tryz.func115, Tryz.ntmps115
    go_wp2_with fail
    go_ret2
    exact ⟨rfl, 0, rfl⟩
  · have q1 := hz1 (by omega)
    subst q1
    obtain rfl : d0 = x := by omega
    obtain ⟨ad, rfl, hc⟩ := c0 (by omega)
    clear c1 c0 hz1 hz0 hor hv hlx
    go_enter Tryz.func115, Tryz.ntmps115
    go_wp2_with fail
    go_ret2
    exact ⟨rfl, 0, rfl⟩
  · obtain ⟨ad, rfl, hc⟩ := c0 (by omega)
    obtain ⟨ad', h', hc'⟩ := c1 (by omega)
    injection h' with h'
    subst h'
    have hc2 : w.cell? ⟨ad.block, ad.off + 1, none⟩ = some (.int .u32 (d1 : Int)) := by rw [← hc']; congr 1
    clear c1 c0 hz1 hz0 hv hlx
    go_enter Tryz.func115, Tryz.ntmps115
    go_wp2_with fail
    go_quiet (fail)
    go_wp2_with fail
    go_ret2
    exact ⟨rfl, _, rfl⟩
set_option maxRecDepth 100000 in
theorem nword_big {A : Option Addr} {n c : Nat} {w : World} (h : 2 < n) :
    Calls Tryz.prog 115 #[.slice A n c] w fun e w' => e = .returned (.tuple #[.int .u64 0, .bool false]) ∧ w' = w := by
  have h0 : ((n : Int) == 0) = false := by rw [beq_eq_false_iff_ne]; omega
  have h1 : ((n : Int) == 1) = false := by rw [beq_eq_false_iff_ne]; omega
  have h2 : ((n : Int) == 2) = false := by rw [beq_eq_false_iff_ne]; omega
  clear h
  go_enter Tryz.func115, Tryz.ntmps115
  go_wp2_with fail
  go_ret2
  exact ⟨rfl, rfl⟩
set_option maxRecDepth 100000 in
theorem div32_is (hi lo y : Nat) (hlo : lo < 4294967296) (hy : y < 4294967296) (h : hi < y) (w : World) :
    Calls Tryz.prog 117 #[.int .u32 (hi : Int), .int .u32 (lo : Int), .int .u32 (y : Int)] w fun e w' => e = .returned (.tuple #[.int .u32 (((hi * 4294967296 + lo) / y : Nat) : Int), .int .u32 (((hi * 4294967296 + lo) % y : Nat) : Int)]) ∧ ∃ j, w' = w.drewN j := by
  have h1 : ((y : Int) != 0) = true := by rw [bne_iff_ne]; omega
  have h2 : decide (y ≤ hi) = false := by rw [decide_eq_false_iff_not]; omega
  have h3 : ((y : Int) == 0) = false := by rw [beq_eq_false_iff_ne]; omega
  have hor := or_shift hi lo (by omega) hlo
  have hq : (hi * 4294967296 + lo) / y < 4294967296 := by
    rw [Nat.div_lt_iff_lt_mul (by omega)]
    have : (hi + 1) * 4294967296 ≤ y * 4294967296 := Nat.mul_le_mul_right _ h
    omega
  have hr : (hi * 4294967296 + lo) % y < y := Nat.mod_lt _ (by omega)
  go_enter Tryz.func117, Tryz.ntmps117
  go_wp2_with fail
  go_quiet (fail)
  go_wp2_with fail
  go_ret2
  have f1 : ((hi : Int) * 4294967296 + lo) / y % 4294967296 = (((hi * 4294967296 + lo) / y : Nat) : Int) := by
    rw [show (hi : Int) * 4294967296 + lo = ((hi * 4294967296 + lo : Nat) : Int) by omega, ← Int.natCast_ediv]
    revert hq; generalize (hi * 4294967296 + lo) / y = z; intro hq; omega
  have f2 : ((hi : Int) * 4294967296 + lo) % y % 4294967296 = (((hi * 4294967296 + lo) % y : Nat) : Int) := by
    rw [show (hi : Int) * 4294967296 + lo = ((hi * 4294967296 + lo : Nat) : Int) by omega, ← Int.natCast_emod]
    revert hr; generalize (hi * 4294967296 + lo) % y = z; intro hr; omega
  rw [f1, f2]
  exact ⟨rfl, _, rfl⟩
end Go.Proofs.YthmmnmajkeoaaabGreatDoor
namespace Go.Proofs.YthmmnmajkeoaaabGreatDoor

theorem pow_words (j : Nat) : 2 ^ (32 * j) = Bs j := by rw [Nat.pow_mul]; rfl
theorem lead_eq {R m : Nat} (h : R < Bs (m + 2)) : (digs R).getD (m + 1) 0 * 4294967296 + (digs R).getD m 0 = R / Bs m := by
  rw [digs_digit, digs_digit, show Bs (m + 1) = Bs m * 4294967296 by rw [Bs_succ, Nat.mul_comm], ← Nat.div_div_eq_div_mul]
  have h1 : R / Bs m < 4294967296 * 4294967296 := by
    rw [Nat.div_lt_iff_lt_mul (Bs_pos m), Nat.mul_assoc, ← Bs_succ, ← Bs_succ]; exact h
  generalize R / Bs m = a at *
  omega
theorem guess_ge {R j D n top q : Nat} (hq : q = R / (Bs j * D)) (ht : top * Bs n ≤ D) (hD : 0 < top) (hR : R < Bs (j + 1) * D) : q ≤ min (R / Bs (n + j) / top) 4294967295 := by
  have h1 : q * (Bs j * D) ≤ R := by rw [hq]; exact Nat.div_mul_le_self _ _
  have h2 : q ≤ R / Bs (n + j) / top := by
    rw [Nat.le_div_iff_mul_le hD, Nat.le_div_iff_mul_le (Bs_pos _), Bs_add]
    have h3 : q * Bs j * (top * Bs n) ≤ q * Bs j * D := Nat.mul_le_mul_left _ ht
    grind
  have h3 : q < 4294967296 := by
    rw [hq]
    refine Nat.div_lt_of_lt_mul ?_
    rw [Bs_succ] at hR
    grind
  omega
theorem guess_more {R b g : Nat} (h : R < b * g) : R / b < g := Nat.div_lt_of_lt_mul h
theorem guess_done {R b g : Nat} (hb : 0 < b) (h : b * g ≤ R) (h2 : R / b ≤ g) : g = R / b := by
  have : g ≤ R / b := by rw [Nat.le_div_iff_mul_le hb]; grind
  omega
theorem rest_next {X D R j : Nat} {qs : List Nat} (hX : X = Bs (j + 1) * (D * val (qs.drop (j + 1))) + R) (hj : j < qs.length) :
    X = Bs j * (D * val ((qs.set j (R / (Bs j * D))).drop j)) + (R - Bs j * D * (R / (Bs j * D))) := by
  rw [set_drop hj, val_cons]
  have h1 : Bs j * D * (R / (Bs j * D)) ≤ R := Nat.mul_div_le _ _
  generalize R / (Bs j * D) = q at *
  obtain ⟨z, hz⟩ : ∃ z, R = Bs j * D * q + z := ⟨R - Bs j * D * q, by omega⟩
  rw [hz, Nat.add_sub_cancel_left, hX, Bs_succ, hz]
  grind
theorem rest_less {D R j : Nat} (hD : 0 < D) : R - Bs j * D * (R / (Bs j * D)) < Bs j * D := by
  have h0 : 0 < Bs j * D := Nat.mul_pos (Bs_pos j) hD
  have h1 := Nat.mod_add_div R (Bs j * D)
  have h2 := Nat.mod_lt R h0
  generalize Bs j * D * (R / (Bs j * D)) = z at *
  omega
end Go.Proofs.YthmmnmajkeoaaabGreatDoor
namespace Go.Proofs.YthmmnmajkeoaaabGreatDoor
open Go.RowKit

/-- What the rounds keep: the quotient's block, the divisor and the rest. -/
def Keep (w2 wr : World) (G : Nat) (zs : List Nat) (v rest : Value) (D R : Nat) : Prop :=
  Own wr G zs ∧ Num wr v D ∧ Num wr rest R ∧ Below G w2 wr
theorem Keep.step {w2 wr wr' : World} {G : Nat} {zs : List Nat} {v rest : Value} {D R : Nat} (h : Keep w2 wr G zs v rest D R) (hb : Below wr.heap.size wr wr') : Keep w2 wr' G zs v rest D R :=
  ⟨h.1.below hb h.1.lt, h.2.1.below hb, h.2.2.1.below hb, h.2.2.2.trans (hb.mono (Nat.le_of_lt h.1.lt))⟩
theorem Keep.stepD {w2 wr wr' : World} {G : Nat} {zs : List Nat} {v rest : Value} {D R : Nat} (h : Keep w2 wr G zs v rest D R) {n : Nat} (hb : Below (wr.drewN n).heap.size (wr.drewN n) wr') : Keep w2 wr' G zs v rest D R :=
  h.step (show Below wr.heap.size wr wr' from (below_drewN (Below.refl _ wr) n).trans hb)
theorem num_far {w : World} {p G n c x j : Nat} (h : Num w (.slice (some ⟨p, 0, none⟩) n c) x) (hp : p ≠ G) (u : Value) : Num (w.setCell ⟨G, j, none⟩ u) (.slice (some ⟨p, 0, none⟩) n c) x :=
  Raw.keepBut h (only_set (World.grownBy.refl w _) j u) (fun _ A' n' c' hv ad hA => by
    injection hv with h1
    rw [← h1] at hA
    injection hA with h2
    rw [← h2]
    exact hp)
theorem Keep.set {w2 wr : World} {G p q a b a' b' : Nat} {zs : List Nat} {D R : Nat} (h : Keep w2 wr G zs (.slice (some ⟨p, 0, none⟩) a b) (.slice (some ⟨q, 0, none⟩) a' b') D R) (hp : p ≠ G) (hq : q ≠ G) (n j d : Nat) :
    Keep w2 ((wr.drewN n).setCell ⟨G, j, none⟩ (.int .u32 (d : Int))) G (zs.set j d) (.slice (some ⟨p, 0, none⟩) a b) (.slice (some ⟨q, 0, none⟩) a' b') D R :=
  ⟨(h.1.drewN n).set j d, num_far (w := wr.drewN n) h.2.1 hp _, num_far (w := wr.drewN n) h.2.2.1 hq _, (below_drewN h.2.2.2 n).setCell (Nat.le_refl _) _⟩
theorem num_cell {w : World} {p n c x j : Nat} (h : Num w (.slice (some ⟨p, 0, none⟩) n c) x) (hj : j < n) : w.cell? ⟨p, j, none⟩ = some (.int .u32 ((digs x).getD j 0 : Nat)) := by
  have hn := (Raw.cap h).1
  obtain ⟨ad, e1, _, e2⟩ := Raw.at_ (j := j) h (by omega)
  injection e1 with e1
  subst e1
  rw [addr_add_lit, Nat.zero_add] at e2
  exact e2

set_option maxRecDepth 100000 in
set_option maxHeartbeats 3200000 in
theorem nlong_is {A A' : Option Addr} {n n' c c' x y : Nat} {w : World} (hX : Num w (.slice A n c) x) (hY : Num w (.slice A' n' c') y) (h2 : 2 ≤ n') (hle : y ≤ x) (hn9 : n ≤ 1000) :
    Calls Tryz.prog 118 #[.slice A n c, .slice A' n' c'] w fun e w' => ∃ B k d B' k' d', e = .returned (.tuple #[.slice B k d, .slice B' k' d']) ∧ Num w' (.slice B k d) (x / y) ∧ Num w' (.slice B' k' d') (x % y) ∧ Below w.heap.size w w' := by
  have hlx := (Raw.cap hX).1
  have hly := (Raw.cap hY).1
  have hll : n' ≤ n := by rw [hlx, hly]; exact digs_length_mono hle
  obtain ⟨m, hm⟩ : ∃ m, n' = m + 2 := ⟨n' - 2, by omega⟩
  obtain ⟨r, hr⟩ : ∃ r, n = n' + r := ⟨n - n', by omega⟩
  have hy0 : 0 < y := by
    rcases Nat.eq_zero_or_pos y with h | h
    · rw [h, digs_zero] at hly; simp at hly; omega
    · exact h
  obtain ⟨t, ht⟩ : ∃ t, y / Bs (m + 1) = t := ⟨_, rfl⟩
  have hyB : y < Bs (m + 2) := lt_of_digs_length (by omega)
  have htB : t < 4294967296 := by
    rw [← ht, Nat.div_lt_iff_lt_mul (Bs_pos _), ← Bs_succ]; exact hyB
  have hyl : Bs (m + 1) ≤ y := by
    have := le_of_digs_length hy0
    rwa [show (digs y).length - 1 = m + 1 by omega] at this
  have ht0 : 0 < t := by rw [← ht]; exact Nat.div_pos hyl (Bs_pos _)
  have hxB : x < Bs (m + 2 + r) := lt_of_digs_length (by omega)
  obtain ⟨ae, hA', _, hct⟩ := Raw.at_ (j := m + 1) hY (by omega)
  rw [digs_digit, ht, Nat.mod_eq_of_lt htB] at hct
  subst hA'
  have k1' : w.cell? ⟨ae.block, ae.off + (m + 1), none⟩ = some (.int .u32 (t : Int)) := by rw [← hct]; congr 1
  have i1 : ((n' : Int) - 1).toNat = m + 1 := by omega
  have i2 : (0 : Int) ≤ (n' : Int) - 1 := by omega
  have i3 : (n' : Int) - 1 < (n' : Int) := by omega
  have i4 : IntKind.i64.wrap ((n' : Int) - 1) = (n' : Int) - 1 := IntWalk.i64_in _ (by omega)
  have HM := Lib.hid hm
  have HR0 := Lib.hid hr
  have HT := Lib.hid ht
  have HYB := Lib.hid hyB
  have HYL := Lib.hid hyl
  have HXB := Lib.hid hxB
  have HLX := Lib.hid hlx
  have HLY := Lib.hid hly
  clear ht hyB hyl hxB hlx hly hct hm hr
  go_enter Tryz.func118, Tryz.ntmps118
  go_wp2_with fail
  refine (lz_any t ht0 htB _).mono ?_
  rintro e w' ⟨s, rfl, hs, hs1, hs2, rfl⟩
  have HS1 := Lib.hid hs1
  have HS2 := Lib.hid hs2
  clear hs1 hs2
  have hsk : s ≤ 1000000 := by omega
  have hyk : (digs y).length ≤ 1000000 := by rw [← HLY.out]; omega
  have hxk : (digs x).length ≤ 1000000 := by rw [← HLX.out]; omega
  go_wp2_with fail
  refine (left_own hY s hsk hyk).mono ?_
  rintro e w1 ⟨mv, dv', rfl, hV, hb1⟩
  go_wp2_with fail
  refine (left_own (hX.below hb1) s hsk hxk).mono ?_
  rintro e w2 ⟨mr, dr', rfl, hR, hb2⟩
  have hP2 : 0 < 2 ^ s := Nat.pow_pos (by omega)
  obtain ⟨P2, hP2e⟩ : ∃ z, 2 ^ s = z := ⟨_, rfl⟩
  have hP2le : P2 ≤ 2147483648 := by rw [← hP2e]; exact pow_le31 hs
  rw [hP2e] at hV hR hP2
  have hbd : Bs (m + 1) * 2147483648 ≤ y * P2 ∧ y * P2 < Bs (m + 2) := by
    rw [← hP2e]
    refine shifted_bounds (t := t) ?_ ?_ HS1.out HS2.out
    · rw [← HT.out]; exact Nat.div_mul_le_self _ _
    · rw [← HT.out, Nat.add_mul, Nat.one_mul]
      have h1 := Nat.div_add_mod y (Bs (m + 1))
      have h2 := Nat.mod_lt y (Bs_pos (m + 1))
      rw [Nat.mul_comm] at h1
      omega
  have hst : x * P2 < Bs (r + 1) * (y * P2) := by
    have h1 := start_small (x := x) (s := s) (D := y * P2) HXB.out (by rw [hP2e]; exact hP2le) hbd.1
    rwa [hP2e] at h1
  obtain ⟨D, hD⟩ : ∃ z, y * P2 = z := ⟨_, rfl⟩
  obtain ⟨X, hXX⟩ : ∃ z, x * P2 = z := ⟨_, rfl⟩
  rw [hD] at hbd hst hV
  rw [hXX] at hst hR
  have hD0 : 0 < D := by rw [← hD]; exact Nat.mul_pos hy0 hP2
  have HD := Lib.hid hD
  have HXX := Lib.hid hXX
  have HBD1 := Lib.hid hbd.1
  have HBD2 := Lib.hid hbd.2
  have HST := Lib.hid hst
  have HP := Lib.hid hP2e
  clear hD hXX hbd hst hP2e
  have hmv : mv = m + 2 := by
    have h1 := (Raw.cap hV).1
    have h2 : (digs D).length ≤ m + 2 := digs_length_le HBD2.out
    have h3 : ¬ (digs D).length ≤ m + 1 := fun h => by
      have h4 := lt_of_digs_length h
      have h5 : Bs (m + 1) * 1 ≤ Bs (m + 1) * 2147483648 := Nat.mul_le_mul_left _ (by omega)
      have h6 := HBD1.out
      omega
    omega
  have HMV := Lib.hid hmv
  have hmb : mv ≤ 1000 := by have := HM.out; omega
  have hm1 : 1 ≤ mv := by omega
  clear hmv
  obtain ⟨top, htop⟩ : ∃ z, (digs D).getD (m + 1) 0 = z := ⟨_, rfl⟩
  have htopD : D / Bs (m + 1) = top := by
    rw [← htop, digs_digit, Nat.mod_eq_of_lt]
    rw [Nat.div_lt_iff_lt_mul (Bs_pos _), ← Bs_succ]; exact HBD2.out
  have htopB : top < 4294967296 := by rw [← htop]; exact okD_getD (okD_digs _) _
  have htop0 : 0 < top := by
    rw [← htopD]
    refine Nat.div_pos ?_ (Bs_pos _)
    have h5 : Bs (m + 1) * 1 ≤ Bs (m + 1) * 2147483648 := Nat.mul_le_mul_left _ (by omega)
    have h6 := HBD1.out
    omega
  have htopM : top * Bs (m + 1) ≤ D := by rw [← htopD]; exact Nat.div_mul_le_self _ _
  have HTM := Lib.hid htopM
  have hV2 := hV.below hb2
  have hct2 := num_cell hV2 (j := m + 1) (by have := HMV.out; omega)
  rw [htop] at hct2
  clear htop htopD htopM k1' i1 i2 i3 i4
  have i1 : ((mv : Int) - 1).toNat = m + 1 := by have := HMV.out; omega
  have i2 : (0 : Int) ≤ (mv : Int) - 1 := by omega
  have i3 : (mv : Int) - 1 < (mv : Int) := by omega
  have i4 : IntKind.i64.wrap ((mv : Int) - 1) = (mv : Int) - 1 := IntWalk.i64_in _ (by omega)
  obtain ⟨w3, hmk, hown, hb3, hsz⟩ := make_row Tryz.underlying44 (r + 1) (by have := HR0.out; omega) w2
  rw [show ((r + 1 : Nat) : Int) = (n : Int) - (n' : Int) + 1 by have := HR0.out; omega] at hmk
  have HO := Lib.hid hown
  clear hown hsz
  have i5 : (0 : Int) ≤ (n : Int) - (n' : Int) + 1 := by omega
  have hr9 : r ≤ 1000 := by have := HR0.out; omega
  have hX0 : 0 < X := by
    have h1 : 0 < x * P2 := Nat.mul_pos (by omega) hP2
    rw [HXX.out] at h1; exact h1
  have hg1 : w.heap.size < w1.heap.size := Raw.block hV (digs_length_pos hD0) _ rfl
  have hg2 : w1.heap.size < w2.heap.size := Raw.block hR (digs_length_pos hX0) _ rfl
  have hvG : w.heap.size ≠ w2.heap.size := by omega
  have hrG : w1.heap.size ≠ w2.heap.size := by omega
  have HVG := Lib.hid hvG
  have HK0 := Lib.hid (show Keep w2 w3 w2.heap.size (List.replicate (r + 1) 0) (.slice (some ⟨w.heap.size, 0, none⟩) mv dv') (.slice (some ⟨w1.heap.size, 0, none⟩) mr dr') D X from ⟨HO.out, hV2.below hb3, hR.below hb3, hb3⟩)
  have hbw : Below w.heap.size w w2 := hb1.trans (hb2.mono (Nat.le_of_lt hg1))
  have HBW := Lib.hid hbw
  have HGG := Lib.hid (Nat.le_of_lt (Nat.lt_trans hg1 hg2))
  clear hvG hbw hV hX0 hg1 hg2 hb1 hb2 hb3 hV2 hR HO
  go_wp2_with fail
  go_loopw [8, 11] (fun re i wr => ∃ (k gr mr' dr'' R : Nat) (zs : List Nat), i = .int .i64 ((k : Int) - 1) ∧ re = .slice (some ⟨gr, 0, none⟩) mr' dr'' ∧ k ≤ r + 1 ∧ gr ≠ w2.heap.size ∧ zs.length = r + 1 ∧ OkD zs ∧ Keep w2 wr w2.heap.size zs (.slice (some ⟨w.heap.size, 0, none⟩) mv dv') (.slice (some ⟨gr, 0, none⟩) mr' dr'') D R ∧ R < Bs k * D ∧ X = Bs k * (D * val (zs.drop k)) + R) (fun _ i _ => (intOf i + 1).toNat)
  case atStart =>
    exact ⟨r + 1, _, _, _, X, List.replicate (r + 1) 0, by congr 1; omega, rfl, Nat.le_refl _, hrG, by simp, okD_replicate _ (by omega), HK0.out, HST.out, by rw [List.drop_eq_nil_of_le (by simp)]; simp [val]⟩
  case round =>
    obtain ⟨k, gr, lr, dr3, R, zs, rfl, rfl, hk, hgr, hzl, hzd, hK, hRb, hXe⟩ := hrel
    have HZL := Lib.hid hzl
    have HRB := Lib.hid hRb
    have HXE := Lib.hid hXe
    have HK := Lib.hid hK
    clear hzl hRb hXe hK
    rcases Nat.eq_zero_or_pos k with rfl | hk0
    · have hRD : R < y * P2 := by have h := HRB.out; rw [Bs_zero, Nat.one_mul] at h; rw [HD.out]; exact h
      have hXD : x * P2 = y * P2 * val zs + R := by have h := HXE.out; rw [Bs_zero, Nat.one_mul, List.drop_zero] at h; rw [HD.out, HXX.out]; exact h
      obtain ⟨hq, hm⟩ := final_div hP2 hXD hRD
      have hraw := HK.out.1.raw_all hzd (by rw [HZL.out]; omega) (r + 1) (r + 1) HZL.out.symm (Nat.le_refl _)
      have HQ := Lib.hid hq
      have HM2 := Lib.hid hm
      clear hq hm hRD hXD
      go_wp2_with fail
      refine (ntrim_is hraw HQ).mono ?_
      rintro e w' ⟨rfl, hN, rfl⟩
      go_wp2_with fail
      refine (right_is HK.out.2.2.1 s (by omega)).mono ?_
      rintro e w' ⟨Br, mr2, dr4, rfl, hNr, hbR⟩
      rw [HP.out, HM2.out] at hNr
      go_wp2_with fail
      go_ret2
      exact ⟨_, _, _, _, _, _, rfl, hN.below hbR, hNr, HBW.out.trans ((HK.out.2.2.2.mono HGG.out).trans (hbR.mono (Nat.le_trans HGG.out (Nat.le_of_lt HK.out.1.lt))))⟩
    · obtain ⟨j, rfl⟩ : ∃ j, k = j + 1 := ⟨k - 1, by omega⟩
      have ei : ((j + 1 : Nat) : Int) - 1 = (j : Int) := by omega
      rw [ei]
      clear ei hk0
      obtain ⟨p, hp⟩ : ∃ p, p = m + 1 + j := ⟨_, rfl⟩
      have hpm : mv + j = p + 1 := by have := HMV.out; omega
      have hRp : R < Bs (p + 2) := by
        have h1 : Bs (j + 1) * D ≤ Bs (j + 1) * Bs (m + 2) := Nat.mul_le_mul_left _ (Nat.le_of_lt HBD2.out)
        rw [← Bs_add, show j + 1 + (m + 2) = p + 2 by omega] at h1
        exact Nat.lt_of_lt_of_le HRB.out h1
      have hlead := lead_eq hRp
      have hguess := guess_ge (R := R) (j := j) (D := D) (n := m + 1) (top := top) rfl HTM.out htop0 HRB.out
      rw [show m + 1 + j = p by omega, ← hlead] at hguess
      have hlrR : lr = (digs R).length := (Raw.cap HK.out.2.2.1).1
      have hlr9 : lr ≤ 1000000000 := by rw [hlrR]; exact Raw.len HK.out.2.2.1
      have hlr8 : lr < 1000000000 := by
        have h1 : (digs R).length ≤ p + 2 := digs_length_le hRp
        have := HMV.out
        omega
      obtain ⟨hi, hhi⟩ : ∃ z, (digs R).getD (p + 1) 0 = z := ⟨_, rfl⟩
      obtain ⟨lo, hlo⟩ : ∃ z, (digs R).getD p 0 = z := ⟨_, rfl⟩
      have bhi : hi < 4294967296 := by rw [← hhi]; exact okD_getD (okD_digs _) _
      have blo : lo < 4294967296 := by rw [← hlo]; exact okD_getD (okD_digs _) _
      have cell1 : p + 1 < lr → wr.cell? ⟨gr, p + 1, none⟩ = some (.int .u32 (hi : Int)) := fun h => by rw [num_cell HK.out.2.2.1 h, hhi]
      have cell0 : p < lr → wr.cell? ⟨gr, p, none⟩ = some (.int .u32 (lo : Int)) := fun h => by rw [num_cell HK.out.2.2.1 h, hlo]
      have hz1 : lr ≤ p + 1 → hi = 0 := fun h => by rw [← hhi]; exact getD_of_ge (by omega)
      have hz0 : lr ≤ p → lo = 0 := fun h => by rw [← hlo]; exact getD_of_ge (by omega)
      rw [hhi, hlo] at hguess
      have hor := or_shift hi lo bhi blo
      obtain ⟨L, hL⟩ : ∃ z, hi * 4294967296 + lo = z := ⟨_, rfl⟩
      rw [hL] at hor hguess
      have hLb : L < 18446744073709551616 := by omega
      obtain ⟨tq, htq⟩ : ∃ z, L / top = z := ⟨_, rfl⟩
      rw [htq] at hguess
      have htqi : (L : Int) / (top : Int) = (tq : Int) := by rw [← htq]; norm_cast
      have htq0 : L = 0 → tq = 0 := fun h => by rw [← htq, h, Nat.zero_div]
      have htqb : tq ≤ L := by rw [← htq]; exact Nat.div_le_self _ _
      obtain ⟨g0, hg0⟩ : ∃ z, z = min tq 4294967295 := ⟨_, rfl⟩
      rw [← hg0] at hguess
      have hg0b : g0 < 4294967296 := by omega
      have hmin : ∀ W : World, (Builtin.min_ #[108, 108] 108 #[.int .u64 (tq : Int), .int .u64 4294967295]).run Tryz.prog W = .ok (.int .u64 (g0 : Int)) W := fun W => by
        rw [run_min_int2]; congr 2; split <;> omega
      have q0 : (0 : Int) ≤ (mv : Int) + (j : Int) := by omega
      have q1 : ((mv : Int) + (j : Int)).toNat = p + 1 := by omega
      have q2 : (0 : Int) ≤ (mv : Int) + (j : Int) - 1 := by omega
      have q3 : ((mv : Int) + (j : Int) - 1).toNat = p := by omega
      have hjr : j ≤ 1000 := by omega
      have e32 : (32 : Int) * (j : Int) = ((32 * j : Nat) : Int) := by omega
      have hD0' : 0 < Bs j * D := Nat.mul_pos (Bs_pos j) hD0
      have hl1 : ∀ g, g < 4294967296 → (digs (D * g)).length ≤ 1000000 := fun g hg => by
        have h1 : D * g ≤ Bs (m + 2) * 4294967296 := Nat.mul_le_mul (Nat.le_of_lt HBD2.out) (Nat.le_of_lt hg)
        have h2 : Bs (m + 3) = 4294967296 * Bs (m + 2) := Bs_succ (m + 2)
        have h3 : Bs (m + 4) = 4294967296 * Bs (m + 3) := Bs_succ (m + 3)
        have h4 := Bs_pos (m + 3)
        have h5 : (digs (D * g)).length ≤ m + 4 := digs_length_le (by omega)
        have := HMV.out
        omega
      have hl2 : ∀ g, g < 4294967296 → (digs g).length ≤ 2 := fun g hg => digs_length_le (by rw [Bs_two]; omega)
      have hval : ∀ g, D * g * 2 ^ (32 * j) = Bs j * D * g := fun g => by rw [pow_words]; grind
      have hcs : (p + 1 < lr ∧ (mv : Int) + (j : Int) < (lr : Int)) ∨ (lr = p + 1 ∧ (lr : Int) ≤ (mv : Int) + (j : Int) ∧ (mv : Int) + (j : Int) - 1 < (lr : Int)) ∨ (lr ≤ p ∧ (lr : Int) ≤ (mv : Int) + (j : Int) ∧ (lr : Int) ≤ (mv : Int) + (j : Int) - 1) := by omega
      have HG := Lib.hid hguess
      have HL1 := Lib.hid hl1
      have HL2 := Lib.hid hl2
      have HVAL := Lib.hid hval
      have HDP := Lib.hid hD0'
      have HPM := Lib.hid hpm
      have E32 := Lib.hid e32
      clear e32
      have HLL := Lib.hid hL
      have HG0 := Lib.hid hg0
      clear hguess hl1 hl2 hval hD0' hhi hlo hL htq hlead hRp hp hlrR hg0 hpm
      rcases hcs with ⟨h1, h2⟩ | ⟨h1, h2, h3⟩ | ⟨h1, h2, h3⟩
      · have c1 := cell1 h1
        have c0 := cell0 (by omega)
        clear cell1 cell0 hz1 hz0 htq0
        have hgw : g0 < 18446744073709551616 := by omega
        go_wp2_with fail
        go_quiet (fail)
        go_wp2_with fail
        refine (word_any _ hgw _).mono ?_
        rintro e wa ⟨Bw, kw, dw, rfl, hW, hbA⟩
        have hK1 := HK.out.stepD hbA
        have hkw : mv + kw ≤ 1000000000 := by
          have h1 := (Raw.cap hW).1
          have h2 := HL2.out _ hg0b
          omega
        clear hbA
        go_wp2_with fail
        refine (nprod_is hK1.2.1 hW hkw).mono ?_
        rintro e wb ⟨Bp, kp, dp, rfl, hPr, hbB⟩
        have hK2 := hK1.step hbB
        go_wp2_with fail
        rw [E32.out]
        refine (left_own hPr (32 * j) (by omega) (HL1.out _ hg0b)).mono ?_
        rintro e wc ⟨kq, dq, rfl, hQ, hbC⟩
        rw [HVAL.out] at hQ
        have hK3 := hK2.step hbC
        have hGb : w2.heap.size < wb.heap.size := hK2.1.lt
        clear hK1 hK2 hW hPr hbB hbC hkw
        go_wp2_with fail
        go_loopw [14, 15] (fun gu pr wi => ∃ (g gp kp dp : Nat), gu = .int .u64 (g : Int) ∧ pr = .slice (some ⟨gp, 0, none⟩) kp dp ∧ R / (Bs j * D) ≤ g ∧ g < 4294967296 ∧ gp ≠ w2.heap.size ∧ Num wi (.slice (some ⟨gp, 0, none⟩) kp dp) (Bs j * D * g) ∧ Keep w2 wi w2.heap.size zs (.slice (some ⟨w.heap.size, 0, none⟩) mv dv') (.slice (some ⟨gr, 0, none⟩) lr dr3) D R) (fun gu _ _ => (intOf gu).toNat)
        case atStart => exact ⟨g0, _, _, _, rfl, rfl, HG.out, hg0b, by omega, hQ, hK3⟩
        case round =>
          obtain ⟨g, gp, kp2, dp2, rfl, rfl, hqg, hgb, hgp, hPN, hKi⟩ := hrel
          have HQG := Lib.hid hqg
          have HGP := Lib.hid hgp
          clear hqg hgp
          go_wp2_with fail
          refine (ncmp_is hPN hKi.2.2.1).mono ?_
          rintro e wd ⟨rfl, jj, rfl⟩
          rcases Nat.lt_or_ge R (Bs j * D * g) with hgt | hle2
          · have hq1 := guess_more hgt
            have hg1 : 1 ≤ g := Nat.lt_of_le_of_lt (Nat.zero_le _) hq1
            rw [cmpI_gt hgt]
            have HQ1 := Lib.hid hq1
            have eg : (g : Int) - 1 = ((g - 1 : Nat) : Int) := by omega
            have EG := Lib.hid eg
            clear hq1 hgt eg
            go_wp2_with fail
            rw [EG.out]
            refine (word_any (g - 1) (by omega) _).mono ?_
            rintro e we ⟨Bw2, kw2, dw2, rfl, hW2, hbE⟩
            have hK4 := hKi.stepD hbE
            have hkw2 : mv + kw2 ≤ 1000000000 := by
              have h1 := (Raw.cap hW2).1
              have h2 := HL2.out (g - 1) (by omega)
              omega
            go_wp2_with fail
            refine (nprod_is hK4.2.1 hW2 hkw2).mono ?_
            rintro e wf ⟨Bp2, kp3, dp3, rfl, hPr2, hbF⟩
            have hK5 := hK4.step hbF
            go_wp2_with fail
            rw [E32.out]
            refine (left_own hPr2 (32 * j) (by omega) (HL1.out _ (by omega))).mono ?_
            rintro e wg ⟨kq2, dq2, rfl, hQ2, hbG⟩
            rw [HVAL.out] at hQ2
            have hK6 := hK5.step hbG
            have hGf : w2.heap.size < wf.heap.size := hK5.1.lt
            go_wp2_with fail
            go_roundw
            case rel => exact ⟨g - 1, _, _, _, rfl, rfl, Nat.le_sub_one_of_lt HQ1.out, by omega, by omega, hQ2, hK6⟩
            case measure => simp [intOf]; omega
          · have hgq := guess_done HDP.out hle2 HQG.out
            have hfinal : R - Bs j * D * g < Bs j * D ∧ X = Bs j * (D * val ((zs.set j g).drop j)) + (R - Bs j * D * g) := by
              rw [hgq]; exact ⟨rest_less hD0, rest_next HXE.out (by rw [HZL.out]; omega)⟩
            have HF := Lib.hid hfinal
            have hcv : cmpI (Bs j * D * g) R ≤ 0 := by
              rcases Nat.lt_or_ge (Bs j * D * g) R with h | h
              · rw [cmpI_lt h]; omega
              · rw [cmpI_eq (Nat.le_antisymm hle2 h)]; omega
            have HLE := Lib.hid hle2
            clear hgq hfinal hle2
            generalize cmpI (Bs j * D * g) R = cv at *
            have hcd : decide (0 < cv) = false := by rw [decide_eq_false_iff_not]; omega
            have hK7 := hKi.set HVG.out hgr jj j g
            have hP7 := num_far (w := wr.drewN jj) (j := j) hPN HGP.out (.int .u32 (g : Int))
            have hcz : (wr.drewN jj).cell? ⟨w2.heap.size, j, none⟩ = some (.int .u32 (zs.getD j 0 : Nat)) := hKi.1.cell (by rw [HZL.out]; omega)
            have hfz : (wr.drewN jj).frozen? ⟨w2.heap.size, j, none⟩ = false := hKi.1.frozen j
            have h7lt := hK7.1.lt
            go_wp2_with fail
            refine (nless_own hK7.2.2.1 hP7 HLE.out hlr8).mono ?_
            rintro e wh ⟨kr, dr5, rfl, hNR, hbH⟩
            have hK8 := hK7.step hbH
            have hsz7 : ((wr.drewN jj).setCell ⟨w2.heap.size, j, none⟩ (.int .u32 (g : Int))).heap.size = wr.heap.size := by simp [World.setCell]
            rw [hsz7] at hNR h7lt
            go_wp2_with fail
            go_roundw
            case rel => exact ⟨j, _, kr, dr5, _, zs.set j g, rfl, rfl, by omega, Nat.ne_of_gt h7lt, by rw [List.length_set]; exact HZL.out, okD_set hzd j hgb, ⟨hK8.1, hK8.2.1, hNR, hK8.2.2.2⟩, HF.out.1, HF.out.2⟩
            case measure => simp [intOf]
      · have c0 := cell0 (by omega)
        have hh := hz1 (by omega)
        obtain rfl : L = lo := by have := HLL.out; omega
        clear cell1 cell0 hz1 hz0 htq0 hor hh h1
        have hgw : g0 < 18446744073709551616 := by omega
        go_wp2_with fail
        refine (word_any _ hgw _).mono ?_
        rintro e wa ⟨Bw, kw, dw, rfl, hW, hbA⟩
        have hK1 := HK.out.step hbA
        have hkw : mv + kw ≤ 1000000000 := by
          have h1 := (Raw.cap hW).1
          have h2 := HL2.out _ hg0b
          omega
        clear hbA
        go_wp2_with fail
        refine (nprod_is hK1.2.1 hW hkw).mono ?_
        rintro e wb ⟨Bp, kp, dp, rfl, hPr, hbB⟩
        have hK2 := hK1.step hbB
        go_wp2_with fail
        rw [E32.out]
        refine (left_own hPr (32 * j) (by omega) (HL1.out _ hg0b)).mono ?_
        rintro e wc ⟨kq, dq, rfl, hQ, hbC⟩
        rw [HVAL.out] at hQ
        have hK3 := hK2.step hbC
        have hGb : w2.heap.size < wb.heap.size := hK2.1.lt
        clear hK1 hK2 hW hPr hbB hbC hkw
        go_wp2_with fail
        go_loopw [14, 15] (fun gu pr wi => ∃ (g gp kp dp : Nat), gu = .int .u64 (g : Int) ∧ pr = .slice (some ⟨gp, 0, none⟩) kp dp ∧ R / (Bs j * D) ≤ g ∧ g < 4294967296 ∧ gp ≠ w2.heap.size ∧ Num wi (.slice (some ⟨gp, 0, none⟩) kp dp) (Bs j * D * g) ∧ Keep w2 wi w2.heap.size zs (.slice (some ⟨w.heap.size, 0, none⟩) mv dv') (.slice (some ⟨gr, 0, none⟩) lr dr3) D R) (fun gu _ _ => (intOf gu).toNat)
        case atStart => exact ⟨g0, _, _, _, rfl, rfl, HG.out, hg0b, by omega, hQ, hK3⟩
        case round =>
          obtain ⟨g, gp, kp2, dp2, rfl, rfl, hqg, hgb, hgp, hPN, hKi⟩ := hrel
          have HQG := Lib.hid hqg
          have HGP := Lib.hid hgp
          clear hqg hgp
          go_wp2_with fail
          refine (ncmp_is hPN hKi.2.2.1).mono ?_
          rintro e wd ⟨rfl, jj, rfl⟩
          rcases Nat.lt_or_ge R (Bs j * D * g) with hgt | hle2
          · have hq1 := guess_more hgt
            have hg1 : 1 ≤ g := Nat.lt_of_le_of_lt (Nat.zero_le _) hq1
            rw [cmpI_gt hgt]
            have HQ1 := Lib.hid hq1
            have eg : (g : Int) - 1 = ((g - 1 : Nat) : Int) := by omega
            have EG := Lib.hid eg
            clear hq1 hgt eg
            go_wp2_with fail
            rw [EG.out]
            refine (word_any (g - 1) (by omega) _).mono ?_
            rintro e we ⟨Bw2, kw2, dw2, rfl, hW2, hbE⟩
            have hK4 := hKi.stepD hbE
            have hkw2 : mv + kw2 ≤ 1000000000 := by
              have h1 := (Raw.cap hW2).1
              have h2 := HL2.out (g - 1) (by omega)
              omega
            go_wp2_with fail
            refine (nprod_is hK4.2.1 hW2 hkw2).mono ?_
            rintro e wf ⟨Bp2, kp3, dp3, rfl, hPr2, hbF⟩
            have hK5 := hK4.step hbF
            go_wp2_with fail
            rw [E32.out]
            refine (left_own hPr2 (32 * j) (by omega) (HL1.out _ (by omega))).mono ?_
            rintro e wg ⟨kq2, dq2, rfl, hQ2, hbG⟩
            rw [HVAL.out] at hQ2
            have hK6 := hK5.step hbG
            have hGf : w2.heap.size < wf.heap.size := hK5.1.lt
            go_wp2_with fail
            go_roundw
            case rel => exact ⟨g - 1, _, _, _, rfl, rfl, Nat.le_sub_one_of_lt HQ1.out, by omega, by omega, hQ2, hK6⟩
            case measure => simp [intOf]; omega
          · have hgq := guess_done HDP.out hle2 HQG.out
            have hfinal : R - Bs j * D * g < Bs j * D ∧ X = Bs j * (D * val ((zs.set j g).drop j)) + (R - Bs j * D * g) := by
              rw [hgq]; exact ⟨rest_less hD0, rest_next HXE.out (by rw [HZL.out]; omega)⟩
            have HF := Lib.hid hfinal
            have hcv : cmpI (Bs j * D * g) R ≤ 0 := by
              rcases Nat.lt_or_ge (Bs j * D * g) R with h | h
              · rw [cmpI_lt h]; omega
              · rw [cmpI_eq (Nat.le_antisymm hle2 h)]; omega
            have HLE := Lib.hid hle2
            clear hgq hfinal hle2
            generalize cmpI (Bs j * D * g) R = cv at *
            have hcd : decide (0 < cv) = false := by rw [decide_eq_false_iff_not]; omega
            have hK7 := hKi.set HVG.out hgr jj j g
            have hP7 := num_far (w := wr.drewN jj) (j := j) hPN HGP.out (.int .u32 (g : Int))
            have hcz : (wr.drewN jj).cell? ⟨w2.heap.size, j, none⟩ = some (.int .u32 (zs.getD j 0 : Nat)) := hKi.1.cell (by rw [HZL.out]; omega)
            have hfz : (wr.drewN jj).frozen? ⟨w2.heap.size, j, none⟩ = false := hKi.1.frozen j
            have h7lt := hK7.1.lt
            go_wp2_with fail
            refine (nless_own hK7.2.2.1 hP7 HLE.out hlr8).mono ?_
            rintro e wh ⟨kr, dr5, rfl, hNR, hbH⟩
            have hK8 := hK7.step hbH
            have hsz7 : ((wr.drewN jj).setCell ⟨w2.heap.size, j, none⟩ (.int .u32 (g : Int))).heap.size = wr.heap.size := by simp [World.setCell]
            rw [hsz7] at hNR h7lt
            go_wp2_with fail
            go_roundw
            case rel => exact ⟨j, _, kr, dr5, _, zs.set j g, rfl, rfl, by omega, Nat.ne_of_gt h7lt, by rw [List.length_set]; exact HZL.out, okD_set hzd j hgb, ⟨hK8.1, hK8.2.1, hNR, hK8.2.2.2⟩, HF.out.1, HF.out.2⟩
            case measure => simp [intOf]
      · have hh := hz1 (by omega)
        have hl0 := hz0 h1
        obtain rfl : L = 0 := by have := HLL.out; omega
        obtain rfl : tq = 0 := htq0 rfl
        obtain rfl : g0 = 0 := by have := HG0.out; omega
        have hmin0 : ∀ W : World, (Builtin.min_ #[108, 108] 108 #[.int .u64 0, .int .u64 4294967295]).run Tryz.prog W = .ok (.int .u64 0) W := hmin
        have hgw : 0 < 18446744073709551616 := by omega
        clear cell1 cell0 hz1 hz0 htq0 hor hh hl0 hmin htqi
        go_wp2_with fail
        refine (word_any _ hgw _).mono ?_
        rintro e wa ⟨Bw, kw, dw, rfl, hW, hbA⟩
        have hK1 := HK.out.step hbA
        have hkw : mv + kw ≤ 1000000000 := by
          have h1 := (Raw.cap hW).1
          have h2 := HL2.out _ hg0b
          omega
        clear hbA
        go_wp2_with fail
        refine (nprod_is hK1.2.1 hW hkw).mono ?_
        rintro e wb ⟨Bp, kp, dp, rfl, hPr, hbB⟩
        have hK2 := hK1.step hbB
        go_wp2_with fail
        rw [E32.out]
        refine (left_own hPr (32 * j) (by omega) (HL1.out _ hg0b)).mono ?_
        rintro e wc ⟨kq, dq, rfl, hQ, hbC⟩
        rw [HVAL.out] at hQ
        have hK3 := hK2.step hbC
        have hGb : w2.heap.size < wb.heap.size := hK2.1.lt
        clear hK1 hK2 hW hPr hbB hbC hkw
        go_wp2_with fail
        go_loopw [14, 15] (fun gu pr wi => ∃ (g gp kp dp : Nat), gu = .int .u64 (g : Int) ∧ pr = .slice (some ⟨gp, 0, none⟩) kp dp ∧ R / (Bs j * D) ≤ g ∧ g < 4294967296 ∧ gp ≠ w2.heap.size ∧ Num wi (.slice (some ⟨gp, 0, none⟩) kp dp) (Bs j * D * g) ∧ Keep w2 wi w2.heap.size zs (.slice (some ⟨w.heap.size, 0, none⟩) mv dv') (.slice (some ⟨gr, 0, none⟩) lr dr3) D R) (fun gu _ _ => (intOf gu).toNat)
        case atStart => exact ⟨0, _, _, _, rfl, rfl, HG.out, hg0b, by omega, hQ, hK3⟩
        case round =>
          obtain ⟨g, gp, kp2, dp2, rfl, rfl, hqg, hgb, hgp, hPN, hKi⟩ := hrel
          have HQG := Lib.hid hqg
          have HGP := Lib.hid hgp
          clear hqg hgp
          go_wp2_with fail
          refine (ncmp_is hPN hKi.2.2.1).mono ?_
          rintro e wd ⟨rfl, jj, rfl⟩
          rcases Nat.lt_or_ge R (Bs j * D * g) with hgt | hle2
          · have hq1 := guess_more hgt
            have hg1 : 1 ≤ g := Nat.lt_of_le_of_lt (Nat.zero_le _) hq1
            rw [cmpI_gt hgt]
            have HQ1 := Lib.hid hq1
            have eg : (g : Int) - 1 = ((g - 1 : Nat) : Int) := by omega
            have EG := Lib.hid eg
            clear hq1 hgt eg
            go_wp2_with fail
            rw [EG.out]
            refine (word_any (g - 1) (by omega) _).mono ?_
            rintro e we ⟨Bw2, kw2, dw2, rfl, hW2, hbE⟩
            have hK4 := hKi.stepD hbE
            have hkw2 : mv + kw2 ≤ 1000000000 := by
              have h1 := (Raw.cap hW2).1
              have h2 := HL2.out (g - 1) (by omega)
              omega
            go_wp2_with fail
            refine (nprod_is hK4.2.1 hW2 hkw2).mono ?_
            rintro e wf ⟨Bp2, kp3, dp3, rfl, hPr2, hbF⟩
            have hK5 := hK4.step hbF
            go_wp2_with fail
            rw [E32.out]
            refine (left_own hPr2 (32 * j) (by omega) (HL1.out _ (by omega))).mono ?_
            rintro e wg ⟨kq2, dq2, rfl, hQ2, hbG⟩
            rw [HVAL.out] at hQ2
            have hK6 := hK5.step hbG
            have hGf : w2.heap.size < wf.heap.size := hK5.1.lt
            go_wp2_with fail
            go_roundw
            case rel => exact ⟨g - 1, _, _, _, rfl, rfl, Nat.le_sub_one_of_lt HQ1.out, by omega, by omega, hQ2, hK6⟩
            case measure => simp [intOf]; omega
          · have hgq := guess_done HDP.out hle2 HQG.out
            have hfinal : R - Bs j * D * g < Bs j * D ∧ X = Bs j * (D * val ((zs.set j g).drop j)) + (R - Bs j * D * g) := by
              rw [hgq]; exact ⟨rest_less hD0, rest_next HXE.out (by rw [HZL.out]; omega)⟩
            have HF := Lib.hid hfinal
            have hcv : cmpI (Bs j * D * g) R ≤ 0 := by
              rcases Nat.lt_or_ge (Bs j * D * g) R with h | h
              · rw [cmpI_lt h]; omega
              · rw [cmpI_eq (Nat.le_antisymm hle2 h)]; omega
            have HLE := Lib.hid hle2
            clear hgq hfinal hle2
            generalize cmpI (Bs j * D * g) R = cv at *
            have hcd : decide (0 < cv) = false := by rw [decide_eq_false_iff_not]; omega
            have hK7 := hKi.set HVG.out hgr jj j g
            have hP7 := num_far (w := wr.drewN jj) (j := j) hPN HGP.out (.int .u32 (g : Int))
            have hcz : (wr.drewN jj).cell? ⟨w2.heap.size, j, none⟩ = some (.int .u32 (zs.getD j 0 : Nat)) := hKi.1.cell (by rw [HZL.out]; omega)
            have hfz : (wr.drewN jj).frozen? ⟨w2.heap.size, j, none⟩ = false := hKi.1.frozen j
            have h7lt := hK7.1.lt
            go_wp2_with fail
            refine (nless_own hK7.2.2.1 hP7 HLE.out hlr8).mono ?_
            rintro e wh ⟨kr, dr5, rfl, hNR, hbH⟩
            have hK8 := hK7.step hbH
            have hsz7 : ((wr.drewN jj).setCell ⟨w2.heap.size, j, none⟩ (.int .u32 (g : Int))).heap.size = wr.heap.size := by simp [World.setCell]
            rw [hsz7] at hNR h7lt
            go_wp2_with fail
            go_roundw
            case rel => exact ⟨j, _, kr, dr5, _, zs.set j g, rfl, rfl, by omega, Nat.ne_of_gt h7lt, by rw [List.length_set]; exact HZL.out, okD_set hzd j hgb, ⟨hK8.1, hK8.2.1, hNR, hK8.2.2.2⟩, HF.out.1, HF.out.2⟩
            case measure => simp [intOf]
end Go.Proofs.YthmmnmajkeoaaabGreatDoor
namespace Go.Proofs.YthmmnmajkeoaaabGreatDoor
open Go.RowKit

set_option maxRecDepth 100000 in
set_option maxHeartbeats 1600000 in
theorem ndivide_less {A A' : Option Addr} {n n' c c' x y : Nat} {w : World} (hX : Num w (.slice A n c) x) (hY : Num w (.slice A' n' c') y) (hlt : x < y) (h2 : 2 < n') :
    Calls Tryz.prog 88 #[.slice A n c, .slice A' n' c'] w fun e w' => ∃ B k d B' k' d', e = .returned (.tuple #[.slice B k d, .slice B' k' d']) ∧ Num w' (.slice B k d) (x / y) ∧ Num w' (.slice B' k' d') (x % y) ∧ Below w.heap.size w w' := by
  have hq : x / y = 0 := Nat.div_eq_of_lt hlt
  have hr : x % y = x := Nat.mod_eq_of_lt hlt
  have hcm := cmpI_lt hlt
  have hln := (Raw.cap hX).1
  have hl := Raw.len hX
  have HQ := Lib.hid hq
  have HR := Lib.hid hr
  have HC := Lib.hid hcm
  have HLN := Lib.hid hln
  clear hq hr hcm hlt hln
  rcases Nat.lt_or_ge 2 n with h3 | h3
  · go_enter Tryz.func88, Tryz.ntmps88
    go_wp2_with fail
    refine (nword_big h3).mono ?_
    rintro e w' ⟨rfl, rfl⟩
    go_wp2_with fail
    refine (ncmp_is hX hY).mono ?_
    rintro e w' ⟨rfl, j, rfl⟩
    rw [HC.out]
    go_wp2_with (at_builtin; refine wpList_append_digs rfl _ _ _ _ rfl Tryz.underlying45 Tryz.underlying45 w'.heap.size rfl (grow_empty _) rfl (raw_alloc hX _) (by simp) (by simpa using hl) ?_; intro v' w1 hg hgr hb)
    rw [List.nil_append] at hg
    have hb2 : Below w'.heap.size w' w1 := (below_drewN (Below.refl _ w') j).trans ((below_alloc (w'.drewN j) (.cells #[] 149)).trans hb)
    obtain ⟨A1, c1, rfl⟩ := hg.form
    have hr := hg.raw hl
    go_wp2_with fail
    go_ret2
    exact ⟨_, _, _, _, _, _, rfl, by rw [HQ.out]; exact num_zero _ _, by rw [HR.out]; exact hr, hb2⟩
  · go_enter Tryz.func88, Tryz.ntmps88
    go_wp2_with fail
    refine (nword_small hX h3).mono ?_
    rintro e w' ⟨rfl, j0, rfl⟩
    go_wp2_with fail
    refine (nword_big h2).mono ?_
    rintro e w' ⟨rfl, rfl⟩
    go_wp2_with fail
    refine (ncmp_is (w := w.drewN j0) hX hY).mono ?_
    rintro e w' ⟨rfl, j, rfl⟩
    rw [HC.out]
    go_wp2_with (at_builtin; refine wpList_append_digs rfl _ _ _ _ rfl Tryz.underlying45 Tryz.underlying45 w.heap.size rfl (grow_empty _) rfl (raw_alloc hX _) (by simp) (by simpa using hl) ?_; intro v' w1 hg hgr hb)
    rw [List.nil_append] at hg
    obtain ⟨A1, c1, rfl⟩ := hg.form
    have hr := hg.raw hl
    go_wp2_with fail
    go_ret2
    refine ⟨_, _, _, _, _, _, rfl, by rw [HQ.out]; exact num_zero _ _, by rw [HR.out]; exact hr, ?_⟩
    exact (below_drewN (Below.refl _ w) (j0 + j)).trans ((below_alloc (w.drewN (j0 + j)) (.cells #[] 149)).trans hb)
set_option maxRecDepth 100000 in
theorem ndivide_long {A A' : Option Addr} {n n' c c' x y : Nat} {w : World} (hX : Num w (.slice A n c) x) (hY : Num w (.slice A' n' c') y) (hle : y ≤ x) (h2 : 2 ≤ n') (h3 : 2 < n) (hn9 : n ≤ 1000) :
    Calls Tryz.prog 88 #[.slice A n c, .slice A' n' c'] w fun e w' => ∃ B k d B' k' d', e = .returned (.tuple #[.slice B k d, .slice B' k' d']) ∧ Num w' (.slice B k d) (x / y) ∧ Num w' (.slice B' k' d') (x % y) ∧ Below w.heap.size w w' := by
  have hcm : 0 ≤ cmpI x y := by
    rcases Nat.lt_or_ge y x with h | h
    · rw [cmpI_gt h]; omega
    · rw [cmpI_eq (Nat.le_antisymm h hle)]; omega
  have HLE := Lib.hid hle
  have h1 : ((n' : Int) == 1) = false := by rw [beq_eq_false_iff_ne]; omega
  clear hle
  go_enter Tryz.func88, Tryz.ntmps88
  go_wp2_with fail
  refine (nword_big h3).mono ?_
  rintro e w' ⟨rfl, rfl⟩
  go_wp2_with fail
  refine (ncmp_is hX hY).mono ?_
  rintro e w' ⟨rfl, j, rfl⟩
  generalize cmpI x y = cv at *
  have hcd : decide (cv < 0) = false := by rw [decide_eq_false_iff_not]; omega
  go_wp2_with fail
  refine (nlong_is (w := w'.drewN j) hX hY h2 HLE.out hn9).mono ?_
  rintro e w2 ⟨B, k, d, B', k', d', rfl, hN1, hN2, hb⟩
  go_wp2_with fail
  go_ret2
  exact ⟨_, _, _, _, _, _, rfl, hN1, hN2, (below_drewN (Below.refl _ w') j).trans hb⟩
end Go.Proofs.YthmmnmajkeoaaabGreatDoor
namespace Go.Proofs.YthmmnmajkeoaaabGreatDoor
open Go.RowKit

set_option maxRecDepth 100000 in
set_option maxHeartbeats 1600000 in
theorem ndivide_word {A A' : Option Addr} {n n' c c' x y : Nat} {w : World} (hX : Num w (.slice A n c) x) (hY : Num w (.slice A' n' c') y) (hn : n ≤ 2) (hn' : n' ≤ 2) (hy0 : 0 < y) :
    Calls Tryz.prog 88 #[.slice A n c, .slice A' n' c'] w fun e w' => ∃ B k d B' k' d', e = .returned (.tuple #[.slice B k d, .slice B' k' d']) ∧ Num w' (.slice B k d) (x / y) ∧ Num w' (.slice B' k' d') (x % y) ∧ Below w.heap.size w w' := by
  have hx9 : x < 18446744073709551616 := by have := lt_of_digs_length (x := x) (k := 2) (by rw [← (Raw.cap hX).1]; exact hn); rwa [Bs_two] at this
  have hy9 : y < 18446744073709551616 := by have := lt_of_digs_length (x := y) (k := 2) (by rw [← (Raw.cap hY).1]; exact hn'); rwa [Bs_two] at this
  have hw1 := nword_small hX hn
  have hw2 := fun j => nword_small (w := w.drewN j) hY hn'
  have HW1 := Lib.hid hw1
  have HW2 := Lib.hid hw2
  obtain ⟨q, hq⟩ : ∃ q, x / y = q := ⟨_, rfl⟩
  obtain ⟨r, hr⟩ : ∃ r, x % y = r := ⟨_, rfl⟩
  have hq9 : q < 18446744073709551616 := by rw [← hq]; exact Nat.lt_of_le_of_lt (Nat.div_le_self _ _) hx9
  have hr9 : r < 18446744073709551616 := by rw [← hr]; exact Nat.lt_trans (Nat.mod_lt _ hy0) hy9
  have hqi : (x : Int) / (y : Int) = (q : Int) := by rw [← hq]; norm_cast
  have hri : (x : Int) % (y : Int) = (r : Int) := by rw [← hr]; norm_cast
  have hyz : ((y : Int) == 0) = false := by rw [beq_eq_false_iff_ne]; omega
  have hyn : ¬ y = 0 := by omega
  have htm : (x : Int).tmod (y : Int) = (r : Int) := by rw [← hr]; norm_cast
  have hqw : IntKind.u64.wrap (q : Int) = (q : Int) := by simp [IntKind.wrap, IntKind.bits, IntKind.signed]; omega
  have hyp : (0 : Int) < (y : Int) := by omega
  have hq8 : (q : Int) < 18446744073709551616 := by omega
  have hr8 : (r : Int) < 18446744073709551616 := by omega
  rw [hq, hr]
  clear hw1 hw2 hX hY hn hn' hq hr hx9 hy9 hy0
  go_enter Tryz.func88, Tryz.ntmps88
  go_wp2_with fail
  refine HW1.out.mono ?_
  rintro e w' ⟨rfl, j, rfl⟩
  go_wp2_with fail
  refine (HW2.out j).mono ?_
  rintro e w' ⟨rfl, j2, rfl⟩
  go_wp2_with fail
  refine wp_region_noPanic ?_
  refine wp_region_held_drew (S := fun _ => True) (by kernel_rfl) trivial (fun hHeld => ?_)
  refine wpAnyH_take (i := 0) (v := ?_) rfl (by kernel_rfl) (by kernel_rfl) (by kernel_rfl) (fun _ _ _ h => h) (Or.inl ⟨by rfl, ?_⟩) (by assumption) ?_
  rotate_left
  · (intro w hSw; go_simp; (try with_reducible rfl))
  simp only [List.getElem_toArray, List.getElem_cons_zero, Act.put, List.setIfInBounds_toArray, List.set_cons_zero, List.set_cons_succ]
  refine wpAnyH_take (i := 1) (v := ?_) rfl (by kernel_rfl) (by kernel_rfl) (by kernel_rfl) (fun _ _ _ h => h) (Or.inl ⟨by rfl, ?_⟩) (by assumption) ?_
  rotate_left
  · (intro w hSw; go_simp; (try with_reducible rfl))
  simp only [List.getElem_toArray, List.getElem_cons_succ, List.getElem_cons_zero, Act.put, List.setIfInBounds_toArray, List.set_cons_zero, List.set_cons_succ]
  refine wpAnyH_take (i := 2) (v := ?_) rfl (by kernel_rfl) (by kernel_rfl) (by kernel_rfl) (fun _ _ _ h => h) (Or.inl ⟨by rfl, ?_⟩) (by assumption) ?_
  rotate_left
  · (intro w hSw; go_simp; (try with_reducible rfl))
  simp only [List.getElem_toArray, List.getElem_cons_succ, List.getElem_cons_zero, Act.put, List.setIfInBounds_toArray, List.set_cons_zero, List.set_cons_succ]
  refine wpAnyH_take (i := 4) (v := ?_) rfl (by kernel_rfl) (by kernel_rfl) (by kernel_rfl) (fun _ _ _ h => h) (Or.inl ⟨by rfl, ?_⟩) (by assumption) ?_
  rotate_left
  · (intro w hSw; go_simp; (try with_reducible rfl))
  simp only [List.getElem_toArray, List.getElem_cons_succ, List.getElem_cons_zero, Act.put, List.setIfInBounds_toArray, List.set_cons_zero, List.set_cons_succ]
  refine wpAnyH_take (i := 5) (v := ?_) rfl (by kernel_rfl) (by kernel_rfl) (by kernel_rfl) (fun _ _ _ h => h) (Or.inl ⟨by rfl, ?_⟩) (by assumption) ?_
  rotate_left
  · (intro w hSw; go_simp; (try with_reducible rfl))
  simp only [List.getElem_toArray, List.getElem_cons_succ, List.getElem_cons_zero, Act.put, List.setIfInBounds_toArray, List.set_cons_zero, List.set_cons_succ]
  refine wpAnyH_take (i := 6) (v := ?_) rfl (by kernel_rfl) (by kernel_rfl) (by kernel_rfl) (fun _ _ _ h => h) (Or.inl ⟨by rfl, ?_⟩) (by assumption) ?_
  rotate_left
  · (intro w hSw; go_simp; (try with_reducible rfl))
  simp only [List.getElem_toArray, List.getElem_cons_succ, List.getElem_cons_zero, Act.put, List.setIfInBounds_toArray, List.set_cons_zero, List.set_cons_succ]
  refine wpAnyH_ready (rs := [3]) (by kernel_rfl) (by simp) (AllReadyH.cons (o := _) rfl (fun K hK => ?_) AllReadyH.nil)
  go_simp
  go_at_call 65; refine (word_any q hq9 _).mono ?_; rintro e w1 ⟨B, k, d, rfl, hN1, hb1⟩
  go_wp2_with fail
  refine hK.out _ _ ?_ (fun hHeld => ?_)
  · trivial
  clear hK K
  try simp only [List.getElem_toArray, List.getElem_cons_succ, List.getElem_cons_zero, Act.put, List.setIfInBounds_toArray, List.set_cons_zero, List.set_cons_succ]
  refine wpAnyH_ready (rs := [7]) (by kernel_rfl) (by simp) (AllReadyH.cons (o := _) rfl (fun K hK => ?_) AllReadyH.nil)
  go_simp
  go_at_call 65; refine (word_any r hr9 _).mono ?_; rintro e w2 ⟨B', k', d', rfl, hN2, hb2⟩; have hN3 := Num.below hN1 hb2; have hbf := hb1.trans (hb2.mono hb1.size)
  go_wp2_with fail
  refine hK.out _ _ ?_ (fun hHeld => ?_)
  · trivial
  clear hK K
  try simp only [List.getElem_toArray, List.getElem_cons_succ, List.getElem_cons_zero, Act.put, List.setIfInBounds_toArray, List.set_cons_zero, List.set_cons_succ]
  refine wpAnyH_take (i := 8) (v := ?_) rfl (by kernel_rfl) (by kernel_rfl) (by kernel_rfl) (fun _ _ _ h => h) (Or.inl ⟨by rfl, ?_⟩) (by assumption) ?_
  rotate_left
  · (intro w hSw; go_simp; (try with_reducible rfl))
  simp only [List.getElem_toArray, List.getElem_cons_succ, List.getElem_cons_zero, Act.put, List.setIfInBounds_toArray, List.set_cons_zero, List.set_cons_succ]
  refine wpAnyH_take (i := 9) (v := ?_) rfl (by kernel_rfl) (by kernel_rfl) (by kernel_rfl) (fun _ _ _ h => h) (Or.inl ⟨by rfl, ?_⟩) (by assumption) ?_
  rotate_left
  · (intro w hSw; go_simp; (try with_reducible rfl))
  simp only [List.getElem_toArray, List.getElem_cons_succ, List.getElem_cons_zero, Act.put, List.setIfInBounds_toArray, List.set_cons_zero, List.set_cons_succ]
  refine wpAnyH_done (by kernel_rfl) ?_ _
  refine NoPanic.normal ?_
  go_wp2_with fail
  go_returns
  exact ⟨_, _, _, _, _, _, rfl, hN3, hN2, (below_drewN (Below.refl _ w) (j + j2 + 1)).trans hbf⟩
end Go.Proofs.YthmmnmajkeoaaabGreatDoor
namespace Go.Proofs.YthmmnmajkeoaaabGreatDoor
open Go.RowKit

set_option maxRecDepth 100000 in
set_option maxHeartbeats 3200000 in
theorem ndivide_one {A A' : Option Addr} {n c c' x y : Nat} {w : World} (hX : Num w (.slice A n c) x) (hY : Num w (.slice A' 1 c') y) (h3 : 2 < n) (hle : y ≤ x) (hn9 : n ≤ 1000000) :
    Calls Tryz.prog 88 #[.slice A n c, .slice A' 1 c'] w fun e w' => ∃ B k d B' k' d', e = .returned (.tuple #[.slice B k d, .slice B' k' d']) ∧ Num w' (.slice B k d) (x / y) ∧ Num w' (.slice B' k' d') (x % y) ∧ Below w.heap.size w w' := by
  have hlx := (Raw.cap hX).1
  have hly := (Raw.cap hY).1
  have hyb : y < 4294967296 := by have := lt_of_digs_length (x := y) (k := 1) (by omega); rwa [Bs_one] at this
  have hy0 : 0 < y := by
    rcases Nat.eq_zero_or_pos y with h | h
    · rw [h, digs_zero] at hly; cases hly
    · exact h
  have hcm : 0 ≤ cmpI x y := by
    rcases Nat.lt_or_ge y x with h | h
    · rw [cmpI_gt h]; omega
    · rw [cmpI_eq (Nat.le_antisymm h hle)]; omega
  obtain ⟨ad', hA', hbY, hcy⟩ := Raw.at_ (j := 0) hY (by omega)
  rw [digs_digit, Bs_zero, Nat.div_one, Nat.mod_eq_of_lt hyb] at hcy
  rw [show ad'.add 0 = ad' from rfl] at hcy
  subst hA'
  have HLX := Lib.hid hlx
  have HCM := Lib.hid (ncmp_is hX hY)
  generalize hcv : cmpI x y = cv at hcm
  have HCV := Lib.hid hcv
  have hcd : decide (cv < 0) = false := by rw [decide_eq_false_iff_not]; omega
  clear hle hlx hly hcv hcm
  go_enter Tryz.func88, Tryz.ntmps88
  go_wp2_with fail
  refine (nword_big h3).mono ?_
  rintro e w' ⟨rfl, rfl⟩
  go_wp2_with fail
  refine HCM.out.mono ?_
  rintro e w0 ⟨rfl, j, rfl⟩
  rw [HCV.out]
  obtain ⟨w1, hmk, hown, hb, hsz⟩ := make_row Tryz.underlying44 n (by omega) (w'.drewN j)
  have hb1 : Below w'.heap.size w' w1 := (below_drewN (Below.refl _ w') j).trans hb
  have hown1 : Own w1 w'.heap.size (List.replicate n 0) := hown
  have HO := Lib.hid hown1
  have hn1 : (n : Int) - 1 = ((n : Nat) : Int) - 1 := rfl
  have hsz1 : w'.heap.size < w1.heap.size := hown1.lt
  clear hown hb hsz hown1
  have hw8 : IntKind.i64.wrap ((n : Int) - 1) = (n : Int) - 1 := IntWalk.i64_in _ (by omega)
  go_wp2_with fail
  go_loopw [11, 12] (fun rs i wr => ∃ (k r : Nat) (zs : List Nat), i = .int .i64 ((k : Int) - 1) ∧ rs = .int .u32 r ∧ k ≤ n ∧ r < y ∧ zs.length = n ∧ OkD zs ∧ Own wr w'.heap.size zs ∧ Below w'.heap.size w' wr ∧
      val (zs.drop k) * y + r = x / Bs k) (fun _ i _ => (intOf i + 1).toNat)
  case atStart =>
    refine ⟨n, 0, _, rfl, rfl, Nat.le_refl _, hy0, by simp, okD_replicate _ (by omega), HO.out, hb1, ?_⟩
    rw [List.drop_eq_nil_of_le (by simp), val_nil, Nat.zero_mul, Nat.div_eq_of_lt (lt_of_digs_length (by rw [← HLX.out]; exact Nat.le_refl _))]
  case round =>
    obtain ⟨k, r, zs, rfl, rfl, hk, hr, hzl, hzd, hzo, hbr, hv⟩ := hrel
    have HV := Lib.hid hv
    have HZL := Lib.hid hzl
    clear hv hzl
    rcases Nat.eq_zero_or_pos k with rfl | hk0
    · have hv := HV.out
      rw [List.drop_zero, Bs_zero, Nat.div_one] at hv
      have e1 : x % y = r := by rw [← hv, Nat.mul_comm, Nat.mul_add_mod, Nat.mod_eq_of_lt hr]
      have e2 : val zs = x / y := by rw [← hv, Nat.mul_comm, Nat.mul_add_div hy0, Nat.div_eq_of_lt hr]; rfl
      have E1 := Lib.hid e1
      have hraw := hzo.raw_all hzd (by rw [HZL.out]; omega) n n HZL.out.symm (Nat.le_refl _)
      have E2 := Lib.hid e2
      have hrb : r < 4294967296 := by omega
      clear hv e1 e2 HV hr
      go_wp2_with fail
      refine (ntrim_is hraw E2).mono ?_
      rintro e w2 ⟨rfl, hN, rfl⟩
      obtain ⟨W, hW, b0, hbW, hsW⟩ := boxes1 wr #[.int .u32 (r : Int)] 149
      have hlit : Raw W (.slice (some ⟨wr.heap.size, 0, none⟩) 1 1) [r] := by rw [← hW]; exact raw_lit wr _ _ 1 _ rfl (okD_one hrb) rfl (by decide) rfl
      have hN2 := Num.below hN hbW
      have hbf := hbr.trans (hbW.mono hbr.size)
      go_wp2_with fail
      refine (ntrim_is hlit (x := r) (Lib.hid (by simp [val]))).mono ?_
      rintro e w3 ⟨rfl, hN3, rfl⟩
      go_wp2_with fail
      go_returns
      exact ⟨_, _, _, _, _, _, rfl, hN2, by rw [E1.out]; exact hN3, hbf⟩
    · obtain ⟨m, rfl⟩ : ∃ m, k = m + 1 := ⟨k - 1, by omega⟩
      have ei : ((m + 1 : Nat) : Int) - 1 = (m : Int) := by omega
      rw [ei]
      clear ei
      obtain ⟨ad, hA, hbX, hcx0⟩ := Raw.at_ (Num.below hX hbr) (j := m) (by rw [← HLX.out]; omega)
      subst hA
      obtain ⟨dx, hdx⟩ : ∃ d, (digs x).getD m 0 = d := ⟨_, rfl⟩
      have bx : dx < 4294967296 := by rw [← hdx]; exact okD_getD (okD_digs x) m
      rw [hdx] at hcx0
      have hval : x / Bs m = dx + 4294967296 * (x / Bs (m + 1)) := by
        rw [← hdx, digs_digit, Bs_succ, Nat.mul_comm 4294967296 (Bs m), ← Nat.div_div_eq_div_mul]; omega
      have HVAL := Lib.hid hval
      clear hval hdx
      have hcy1 : wr.cell? ad' = some (.int .u32 (y : Int)) := (hbr.cell hbY).trans hcy
      have hbX' : ad.block ≠ w'.heap.size := by
        obtain ⟨ad2, e1, e2, _⟩ := Raw.at_ hX (j := m) (by rw [← HLX.out]; omega)
        injection e1 with e1
        rw [e1]; omega
      have hcz := hzo.cell (j := m) (by rw [HZL.out]; omega)
      have hfr := hzo.frozen m
      have i1 : (0 : Int) ≤ (m : Int) := by omega
      have i2 : (m : Int) < (n : Int) := by omega
      have hdv := div32_is r dx y bx hyb hr
      obtain ⟨q, hq⟩ : ∃ q, (r * 4294967296 + dx) / y = q := ⟨_, rfl⟩
      obtain ⟨r', hr'⟩ : ∃ q, (r * 4294967296 + dx) % y = q := ⟨_, rfl⟩
      rw [hq, hr'] at hdv
      have hqb : q < 4294967296 := by
        rw [← hq]; refine Nat.div_lt_of_lt_mul ?_
        have : (r + 1) * 4294967296 ≤ y * 4294967296 := Nat.mul_le_mul_right _ hr
        omega
      have hrb : r' < y := by rw [← hr']; exact Nat.mod_lt _ hy0
      have hqr : r * 4294967296 + dx = q * y + r' := by
        have h := Nat.div_add_mod (r * 4294967296 + dx) y
        rw [Nat.mul_comm y, hq, hr'] at h
        exact h.symm
      have HQR := Lib.hid hqr
      have HDV := Lib.hid hdv
      have hne1 : ad.add m ≠ ⟨w'.heap.size, m, none⟩ := fun e => by
        have h := congrArg Addr.block e
        rw [addr_add_block] at h
        exact hbX' h
      have hne2 : ad' ≠ ⟨w'.heap.size, m, none⟩ := fun e => by
        have h := congrArg Addr.block e
        simp at h
        omega
      have N1 := Lib.hid hne1
      have N2 := Lib.hid hne2
      clear hq hr' hqr hdv hne1 hne2
      go_wp2_with fail
      go_region_held3 (fun V => V.cell? (ad.add m) = some (.int .u32 (dx : Int)) ∧ V.cell? ad' = some (.int .u32 (y : Int))) (first | exact ⟨hcx0, hcy1⟩ | exact ⟨(World.cell?_setCell_other _ _ _ _ N1.out).trans hcx0, (World.cell?_setCell_other _ _ _ _ N2.out).trans hcy1⟩ | exact ⟨(World.cell?_setCell_other _ _ _ _ (fun e => N1.out e.symm)).trans hcx0, (World.cell?_setCell_other _ _ _ _ (fun e => N2.out e.symm)).trans hcy1⟩)
        (first
          | (go_at_call 117; refine (HDV.out _).mono ?_; rintro e w2 ⟨rfl, j2, rfl⟩)
        )
      go_wp2_with fail
      go_roundw
      case rel =>
        refine ⟨m, r', _, rfl, rfl, by omega, hrb, by rw [List.length_set]; exact HZL.out, okD_set hzd m hqb, Own.set (w := wr.drewN (1 + j2)) hzo m q, (below_drewN hbr (1 + j2)).setCell (p := ⟨w'.heap.size, m, none⟩) (Nat.le_refl _) _, ?_⟩
        have h1 : (zs.set m q).drop m = q :: zs.drop (m + 1) := by
          rw [List.drop_eq_getElem_cons (by rw [List.length_set, HZL.out]; omega), List.getElem_set_self, List.drop_set_of_lt (by omega)]
        rw [h1, val_cons, HVAL.out]
        exact divd_round HV.out rfl HQR.out
      case measure => simp [intOf]
/-- The reference's Divide. -/
theorem ndivide_is {A A' : Option Addr} {n n' c c' x y : Nat} {w : World} (hX : Num w (.slice A n c) x) (hY : Num w (.slice A' n' c') y) (hy0 : 0 < y) (hn9 : n ≤ 1000) :
    Calls Tryz.prog 88 #[.slice A n c, .slice A' n' c'] w fun e w' => ∃ B k d B' k' d', e = .returned (.tuple #[.slice B k d, .slice B' k' d']) ∧ Num w' (.slice B k d) (x / y) ∧ Num w' (.slice B' k' d') (x % y) ∧ Below w.heap.size w w' := by
  have hlx := (Raw.cap hX).1
  have hly := (Raw.cap hY).1
  have hyp := digs_length_pos hy0
  rcases Nat.lt_or_ge 2 n with h3 | h3
  · rcases Nat.lt_or_ge x y with hlt | hle
    · rcases Nat.lt_or_ge 2 n' with h2 | h2
      · exact ndivide_less hX hY hlt h2
      · have := digs_length_mono (Nat.le_of_lt hlt); omega
    · rcases Nat.lt_or_ge n' 2 with h1 | h1
      · obtain rfl : n' = 1 := by omega
        exact ndivide_one hX hY h3 hle (by omega)
      · exact ndivide_long hX hY hle h1 h3 hn9
  · rcases Nat.lt_or_ge 2 n' with h2 | h2
    · have hlt : x < y := lt_of_len (by omega)
      exact ndivide_less hX hY hlt h2
    · exact ndivide_word hX hY h3 h2 hy0
end Go.Proofs.YthmmnmajkeoaaabGreatDoor
