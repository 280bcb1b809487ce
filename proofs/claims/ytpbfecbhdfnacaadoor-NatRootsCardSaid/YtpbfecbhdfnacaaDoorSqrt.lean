/-
  The contract of Sqrt.
-/
import Derived.Test.YtpbfecbhdfnacaaDoorSqrtM
import Derived.Test.YtpbfecbhdfnacaaDoorInt
import Derived.Test.YtpbfecbhdfnacaaDoorMul
namespace Go.Proofs.YtpbfecbhdfnacaaDoor
open Go.RowKit

theorem root_exists : ∀ n : Nat, ∃ r, r * r ≤ n ∧ n < (r + 1) * (r + 1)
  | 0 => ⟨0, by omega, by omega⟩
  | n + 1 => by
    obtain ⟨r, h1, h2⟩ := root_exists n
    rcases Nat.lt_or_ge (n + 1) ((r + 1) * (r + 1)) with h | h
    · exact ⟨r, by omega, h⟩
    · refine ⟨r + 1, h, ?_⟩
      have e : (r + 1 + 1) * (r + 1 + 1) = (r + 1) * (r + 1) + 2 * (r + 1) + 1 := by grind
      omega
theorem root_le {r n : Nat} (h : r * r ≤ n) : r ≤ n := by
  rcases Nat.eq_zero_or_pos r with h0 | h0
  · omega
  · exact Nat.le_trans (Nat.le_mul_of_pos_left r h0) h
section
variable {A : Option Addr} {n c X L r : Nat} {w : World}
set_option maxRecDepth 100000 in
set_option maxHeartbeats 4000000 in
theorem sqrt_v (hx : RV w (.slice A n c) X L) (hL : L ≤ 999000) (hr : r * r ≤ X ∧ X < (r + 1) * (r + 1)) :
    Calls Tryd.prog 15 #[.slice A n c] w fun e w' => ∃ B k d, e = .returned (.slice B k d) ∧ NV w' (.slice B k d) r L ∧ Below w.heap.size w w' := by
  have hrb : r < Bs L := Nat.lt_of_le_of_lt (root_le hr.1) hx.lt
  have hXb := hx.lt
  obtain ⟨ds, h1, h2, h3⟩ := hx
  have HR := Lib.hid hr
  have HRB := Lib.hid hrb
  have HX2 := Lib.hid h2
  clear hr hrb h2
  rcases Nat.eq_zero_or_pos X with rfl | hx0
  · have hr0 : r = 0 := by
      have h := HR.out.1
      have := root_le h
      omega
    subst hr0
    go_enter Tryd.func15, Tryd.ntmps15
    go_wp2_with fail
    refine (trim_is h1 HX2).mono ?_
    rintro e w' ⟨rfl, hX, rfl⟩
    rw [digs_zero]
    go_wp2_with fail
    go_ret
    exact ⟨_, _, _, rfl, ⟨num_zero _ _, HRB.out⟩, Below.refl _ _⟩
  · have hb0 : 0 < bitsN X := bitsN_pos hx0
    have hbl := bitsN_le hXb
    obtain ⟨m, hm⟩ : ∃ m, bitsN X = m + 1 := ⟨bitsN X - 1, by omega⟩
    obtain ⟨c0, hc0⟩ : ∃ c0, m / 2 = c0 := ⟨_, rfl⟩
    have hnb := near_bits (n := X) (c := c0) hx0 (by rw [hm, Nat.add_sub_cancel]; exact hc0)
    have HNB := Lib.hid hnb
    have hcb : c0 ≤ 16000000 := by omega
    have e1 : IntKind.i64.wrap (((m + 1 : Nat) : Int) - 1) = (m : Int) := by rw [IntKind.wrap_i64]; omega
    have e2 : IntKind.u64.wrap (m : Int) = (m : Int) := by rw [IntKind.wrap_u64]; omega
    have e3 : (m : Int) / 2 = (c0 : Int) := by omega
    have HLN := Lib.hid (fun W => Tryd.bits_Len (c0 : Int) W (by omega) (by omega))
    have hne : ¬ (digs X).length = 0 := by have := digs_length_pos hx0; omega
    have hne' : (((digs X).length : Int) == 0) = false := by rw [beq_eq_false_iff_ne]; omega
    have HM := Lib.hid hm
    have HBI := Lib.hid (fun (W : World) (hx : RV W (.slice A (digs X).length c) X L) => bits_v hx)
    rw [hm] at HBI
    clear hnb hb0 hbl hm hc0
    go_enter Tryd.func15, Tryd.ntmps15
    go_wp2_with fail
    refine (trim_is h1 HX2).mono ?_
    rintro e w' ⟨rfl, hX, rfl⟩
    have fx : NV w (.slice A (digs X).length c) X L := ⟨hX, hXb⟩
    clear hX hXb
    go_wp2_with fail
    refine (HBI.out _ fx.rv).mono ?_
    rintro e w1 ⟨rfl, hb⟩
    have H0 := hb
    replace fx := fx.below hb
    clear hb
    go_wp2_with fail
    refine (HLN.out _).mono ?_
    rintro e w2 ⟨rfl, rfl⟩
    rw [Int.toNat_natCast]
    obtain ⟨lb, hlb⟩ : ∃ lb, Lib.bitLen c0 = lb := ⟨_, rfl⟩
    obtain ⟨i1, i2⟩ := bitLen_lt 24 c0 (by omega) (by omega)
    have i3 : 0 < c0 → 2 ^ (lb - 1) ≤ c0 := fun h => by rw [← hlb]; exact (bitLen_ge 24 c0 (by omega) (by omega) h).2
    have i4 : c0 = 0 → lb = 0 := fun h => by rw [← hlb, h]; decide
    rw [hlb] at i1 i2 ⊢
    have I1 := Lib.hid i1
    have I3 := Lib.hid i3
    have I4 := Lib.hid i4
    clear i1 i3 i4 hlb
    have r1 : Raw (w1.alloc (.cells #[.int .u32 1] 60)) (.slice (some ⟨w1.heap.size, 0, none⟩) 1 1) [1] := raw_lit w1 _ _ 1 _ rfl (okD_one (by decide)) rfl (by decide) rfl
    have hd : digs 1 = [1] := by rw [digs_pos (by omega), show 1 / 4294967296 = 0 from rfl, digs_zero]
    have hN : NV (w1.alloc (.cells #[.int .u32 1] 60)) (.slice (some ⟨w1.heap.size, 0, none⟩) 1 1) 1 (L + 1) := ⟨by unfold Num; rw [hd]; exact r1, by rw [Bs_succ]; have := Bs_pos L; omega⟩
    have hb := below_alloc w1 (.cells #[.int .u32 1] 60)
    replace fx := fx.below hb
    replace H0 := H0.trans (hb.mono H0.size)
    clear hb r1 hd
    generalize w1.alloc (.cells #[.int .u32 1] 60) = w3 at fx H0 hN ⊢
    go_wp2_with fail
    go_loopw [4, 5, 6] (fun rv kv sv wr => ∃ (t R : Nat) (B5 : Option Addr) (k5 d5 : Nat), rv = .slice B5 k5 d5 ∧ kv = .int .u64 ((c0 / 2 ^ t : Nat) : Int) ∧ sv = .int .i64 ((t : Int) - 1) ∧ t ≤ lb ∧ NV wr (.slice B5 k5 d5) R (L + 1) ∧ NV wr (.slice A (digs X).length c) X L ∧ Near R (X / 2 ^ (2 * c0 - 2 * (c0 / 2 ^ t))) ∧ Below w.heap.size w wr) (fun _ _ sv _ => (intOf sv + 1).toNat)
    case atStart => exact ⟨lb, 1, _, _, _, rfl, by rw [Nat.div_eq_of_lt I1.out]; rfl, rfl, Nat.le_refl _, hN, fx, by rw [Nat.div_eq_of_lt I1.out]; exact near_start HNB.out.1 HNB.out.2, H0⟩
    case round =>
      obtain ⟨t, R, B5, k5, d5, rfl, rfl, rfl, ht, gr, gx, hnear, hbl⟩ := hrel
      have HNR := Lib.hid hnear
      clear hnear hN fx H0
      rcases Nat.eq_zero_or_pos t with rfl | ht0
      · rw [show ((0 : Nat) : Int) - 1 = -1 from rfl]
        have hend := near_end (n := X) (a := R) (by have h := HNR.out; rw [Nat.pow_zero, Nat.div_one, Nat.sub_self, Nat.pow_zero, Nat.div_one] at h; exact h)
        have hR1 : 1 ≤ R := HNR.out.1
        have HEND := Lib.hid hend
        clear hend HNR
        go_wp2_with fail
        refine (mul_v gr.rv gr.rv (by omega) (by omega)).mono ?_
        rintro e w4 ⟨B6, k6, d6, rfl, g6, hb⟩
        replace hbl := hbl.trans (hb.mono hbl.size)
        replace gr := gr.below hb
        replace gx := gx.below hb
        clear hb
        go_wp2_with fail
        refine (cmp_v g6.rv gx.rv).mono ?_
        rintro e w5 ⟨rfl, hb⟩
        replace hbl := hbl.trans (hb.mono hbl.size)
        replace gr := gr.below hb
        clear hb g6 gx
        rcases Nat.lt_or_ge X (R * R) with hlt | hge
        · have hq : cmpI (R * R) X = 1 := by unfold cmpI; rw [if_neg (by omega), if_pos (by omega)]
          rw [hq]
          have hrr : R - 1 = r := root_unique (HEND.out.1 hlt) HR.out
          have HRR := Lib.hid hrr
          clear hrr hq hlt
          have r1 : Raw (w5.alloc (.cells #[.int .u32 1] 60)) (.slice (some ⟨w5.heap.size, 0, none⟩) 1 1) [1] := raw_lit w5 _ _ 1 _ rfl (okD_one (by decide)) rfl (by decide) rfl
          have hd : digs 1 = [1] := by rw [digs_pos (by omega), show 1 / 4294967296 = 0 from rfl, digs_zero]
          have hN : NV (w5.alloc (.cells #[.int .u32 1] 60)) (.slice (some ⟨w5.heap.size, 0, none⟩) 1 1) 1 (L + 1) := ⟨by unfold Num; rw [hd]; exact r1, by rw [Bs_succ]; have := Bs_pos L; omega⟩
          have hb := below_alloc w5 (.cells #[.int .u32 1] 60)
          replace gr := gr.below hb
          replace hbl := hbl.trans (hb.mono hbl.size)
          clear hb r1 hd
          go_wp2_with fail
          refine (sub_v gr.rv hN.rv hR1).mono ?_
          rintro e w6 ⟨B7, k7, d7, rfl, g7, hb⟩
          rw [HRR.out] at g7
          replace hbl := hbl.trans (hb.mono hbl.size)
          have hfin : NV w6 (.slice B7 k7 d7) r L := ⟨g7.1, HRB.out⟩
          go_wp2_with fail
          try rw [Exit.noGoto_ret]
          go_ret
          exact ⟨_, _, _, rfl, hfin, hbl⟩
        · have hq : ¬ 0 < cmpI (R * R) X := by unfold cmpI; split
                                               · omega
                                               · rw [if_neg (by omega)]; omega
          obtain ⟨q, hqq⟩ : ∃ q, cmpI (R * R) X = q := ⟨_, rfl⟩
          rw [hqq] at hq ⊢
          have hrr : R = r := root_unique (HEND.out.2 hge) HR.out
          subst hrr
          have hfin : NV w5 (.slice B5 k5 d5) R L := ⟨gr.1, HRB.out⟩
          clear hge hqq HEND
          go_wp2_with fail
          try rw [Exit.noGoto_ret]
          go_ret
          exact ⟨_, _, _, rfl, hfin, hbl⟩
      · obtain ⟨j, rfl⟩ : ∃ j, t = j + 1 := ⟨t - 1, by omega⟩
        rw [show ((j + 1 : Nat) : Int) - 1 = (j : Int) by omega]
        obtain ⟨nx, hnx⟩ : ∃ nx, c0 / 2 ^ j = nx := ⟨_, rfl⟩
        obtain ⟨kn, hkn⟩ : ∃ kn, c0 / 2 ^ (j + 1) = kn := ⟨_, rfl⟩
        have hkn2 : kn = nx / 2 := by rw [← hkn, ← hnx, Nat.div_div_eq_div_mul, Nat.pow_succ]
        have hcp : 0 < c0 := by
          rcases Nat.eq_zero_or_pos c0 with h | h
          · have := I4.out h; omega
          · exact h
        have hnx1 : 1 ≤ nx := by
          rw [← hnx, Nat.le_div_iff_mul_le (Nat.two_pow_pos _), Nat.one_mul]
          exact Nat.le_trans (Nat.pow_le_pow_right (by omega) (by omega)) (I3.out hcp)
        have hnxc : nx ≤ c0 := by rw [← hnx]; exact Nat.div_le_self _ _
        have q1 : (c0 : Int) / 2 ^ j = (nx : Int) := by rw [← hnx]; norm_cast
        rw [hkn] at HNR ⊢
        have hstep := near_code HNR.out (show kn < nx by omega) (show nx ≤ 2 * kn + 1 by omega) hnxc HNB.out.1
        obtain ⟨a1, ha1⟩ : ∃ a, 2 * c0 - kn = a := ⟨_, rfl⟩
        obtain ⟨a2, ha2⟩ : ∃ a, a1 - nx = a := ⟨_, rfl⟩
        obtain ⟨a3, ha3⟩ : ∃ a, a2 + 1 = a := ⟨_, rfl⟩
        obtain ⟨b1, hb1⟩ : ∃ a, nx - kn = a := ⟨_, rfl⟩
        obtain ⟨b2, hb2⟩ : ∃ a, b1 - 1 = a := ⟨_, rfl⟩
        rw [ha1, ha2, ha3, hb1, hb2] at hstep
        have x1 : IntKind.u64.wrap (2 * (c0 : Int) - (kn : Int)) = (a1 : Int) := by rw [IntKind.wrap_u64]; omega
        have x2 : IntKind.u64.wrap ((a1 : Int) - (nx : Int)) = (a2 : Int) := by rw [IntKind.wrap_u64]; omega
        have x3 : IntKind.u64.wrap ((a2 : Int) + 1) = (a3 : Int) := by rw [IntKind.wrap_u64]; omega
        have x4 : IntKind.u64.wrap ((nx : Int) - (kn : Int)) = (b1 : Int) := by rw [IntKind.wrap_u64]; omega
        have x5 : IntKind.u64.wrap ((b1 : Int) - 1) = (b2 : Int) := by rw [IntKind.wrap_u64]; omega
        have hR1 : 0 < R := HNR.out.1
        have ha3b : a3 < 18446744073709551616 := by omega
        have hb2b : b2 < 1000000000 := by omega
        have HST := Lib.hid hstep
        have HNX := Lib.hid hnx
        clear hstep hnx hkn hkn2 hcp hnx1 hnxc ha1 ha2 ha3 hb1 hb2 HNR
        go_wp2_with fail
        refine (shr_v gx.rv a3 ha3b).mono ?_
        rintro e w4 ⟨B6, k6, d6, rfl, g6, hb⟩
        replace hbl := hbl.trans (hb.mono hbl.size)
        replace gr := gr.below hb
        replace gx := gx.below hb
        clear hb
        go_wp2_with fail
        refine (divmod_v g6.rv gr.rv hR1 (by omega)).mono ?_
        rintro e w5 ⟨B7, k7, d7, B8, k8, d8, rfl, g7, g8, hb⟩
        replace hbl := hbl.trans (hb.mono hbl.size)
        replace gr := gr.below hb
        replace gx := gx.below hb
        clear hb g6 g8
        have hrl := digs_length_le gr.2
        go_wp2_with fail
        refine (shl_is gr.1 (Lib.hid (val_digs R)) b2 hb2b (by omega)).mono ?_
        rintro e w6 ⟨B9, k9, d9, rfl, g9, hb⟩
        replace hbl := hbl.trans (hb.mono hbl.size)
        replace g7 := g7.below hb
        replace gx := gx.below hb
        clear hb gr hrl
        have HS := Lib.hid (show Near (R * 2 ^ b2 + X / 2 ^ a3 / R) (X / 2 ^ (2 * c0 - 2 * nx)) from HST.out)
        have hlt : R * 2 ^ b2 + X / 2 ^ a3 / R < Bs (L + 1) := by
          have hB := Bs_pos L
          have h := near_lt HST.out (B := Bs L) (Nat.lt_of_le_of_lt (Nat.div_le_self _ _) (Nat.lt_of_lt_of_le gx.2 (Nat.le_mul_of_pos_left _ hB)))
          rw [Bs_succ]; omega
        have g9' : NV w6 (.slice B9 k9 d9) (R * 2 ^ b2) (L + 1) := ⟨g9, Nat.lt_of_le_of_lt (Nat.le_add_right _ _) hlt⟩
        have HLT := Lib.hid hlt
        clear g9 hlt HST
        go_wp2_with fail
        refine (add_v g9'.rv g7.rv (by omega) (by omega)).mono ?_
        rintro e w7 ⟨B10, k10, d10, rfl, g10, hb⟩
        replace hbl := hbl.trans (hb.mono hbl.size)
        replace gx := gx.below hb
        clear hb g9' g7
        have hfin : NV w7 (.slice B10 k10 d10) (R * 2 ^ b2 + X / 2 ^ a3 / R) (L + 1) := ⟨g10.1, HLT.out⟩
        clear g10
        go_wp2_with fail
        go_roundw
        case rel => exact ⟨j, _, _, _, _, rfl, by rw [HNX.out], rfl, by omega, hfin, gx, by rw [HNX.out]; exact HS.out, hbl⟩
        case measure => simp [intOf]
end
end Go.Proofs.YtpbfecbhdfnacaaDoor
