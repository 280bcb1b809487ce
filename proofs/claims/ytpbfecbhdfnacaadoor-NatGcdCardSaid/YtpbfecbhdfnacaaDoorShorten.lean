/-
  The contract of shorten.
-/
import Derived.Test.YtpbfecbhdfnacaaDoorEuclid
import Derived.Test.YtpbfecbhdfnacaaDoorDivMod
import Derived.Test.YtpbfecbhdfnacaaDoorShift2
import Derived.Test.YtpbfecbhdfnacaaDoorForms
import Derived.Test.YtpbfecbhdfnacaaDoorDiff
namespace Go.Proofs.YtpbfecbhdfnacaaDoor
open Go.RowKit

theorem bitLen_lt : ∀ (k x : Nat), k ≤ 64 → x < 2 ^ k → x < 2 ^ Lib.bitLen x ∧ Lib.bitLen x ≤ k
  | 0, x, _, h => by
    have : x = 0 := by simpa using h
    subst this
    exact ⟨by decide, by decide⟩
  | k + 1, x, hk, h => by
    rcases Nat.eq_zero_or_pos x with h0 | h0
    · subst h0; exact ⟨by decide, by have : Lib.bitLen 0 = 0 := by decide
                                     omega⟩
    · have h64 : x < 2 ^ 64 := Nat.lt_of_lt_of_le h (Nat.pow_le_pow_right (by omega) hk)
      have hp : 2 ^ (k + 1) = 2 * 2 ^ k := by rw [Nat.pow_succ]; omega
      obtain ⟨i1, i2⟩ := bitLen_lt k (x / 2) (by omega) (by omega)
      rw [Lib.bitLen_half x (by omega) h64]
      refine ⟨?_, by omega⟩
      rw [Nat.add_comm, Nat.pow_succ]
      omega
theorem bitsN_lt (x : Nat) : x < 2 ^ bitsN x := by
  unfold bitsN
  split
  · subst_vars; decide
  · rename_i h
    unfold topBits
    obtain ⟨m, hm⟩ : ∃ m, (digs x).length = m + 1 := ⟨(digs x).length - 1, by
      have : 0 < (digs x).length := digs_length_pos (by omega)
      omega⟩
    have ht : (digs x).getD m 0 < 4294967296 := okD_getD (okD_digs x) m
    obtain ⟨i1, i2⟩ := bitLen_lt 32 _ (by omega) (show (digs x).getD m 0 < 2 ^ 32 from ht)
    have hv : x = val ((digs x).take m) + Bs m * (digs x).getD m 0 := by
      rw [← val_take_succ', ← hm, val_take_all (Nat.le_refl _), val_digs]
    have hl := val_lt (okD_take (okD_digs x) m)
    rw [List.length_take, hm, Nat.min_eq_left (by omega)] at hl
    rw [hm, Nat.add_sub_cancel, Nat.mul_comm, Nat.pow_add, ← Bs_pow]
    have : Bs m * ((digs x).getD m 0 + 1) ≤ Bs m * 2 ^ Lib.bitLen ((digs x).getD m 0) := Nat.mul_le_mul_left _ i1
    rw [Nat.mul_add, Nat.mul_one] at this
    omega
theorem bitsN_le {x L : Nat} (h : x < Bs L) : bitsN x ≤ 32 * L := by
  unfold bitsN
  split
  · omega
  · unfold topBits
    have h1 := digs_length_le h
    obtain ⟨i1, i2⟩ := bitLen_lt 32 _ (by omega) (show (digs x).getD ((digs x).length - 1) 0 < 2 ^ 32 from okD_getD (okD_digs x) _)
    have : 0 < (digs x).length := digs_length_pos (by omega)
    omega
theorem bitsN_64 {x : Nat} (h : 18446744073709551616 ≤ x) : 64 < bitsN x := by
  rcases Nat.lt_or_ge 64 (bitsN x) with h1 | h1
  · exact h1
  · have h2 := bitsN_lt x
    have h3 : 2 ^ bitsN x ≤ 2 ^ 64 := Nat.pow_le_pow_right (by omega) h1
    omega
theorem top_64 {x k : Nat} (h : bitsN x = k + 64) : x / 2 ^ k < 18446744073709551616 := by
  have h2 := bitsN_lt x
  rw [h, Nat.pow_add] at h2
  exact Nat.div_lt_of_lt_mul h2
theorem drawn1 (w : World) : Below w.heap.size w w.drew := (below_drewN (Below.refl _ w) 1)
section
variable {A A' : Option Addr} {n n' c c' X Y L L' R : Nat} {w : World}
theorem diff_v (hx : NV w (.slice A n c) X L) (hy : NV w (.slice A' n' c') Y L') (p q : Nat) (hp : p < 4294967296) (hq : q < 4294967296) (hR : R + q * Y = p * X) (hl : R < Bs (max (digs X).length (digs Y).length)) :
    Calls Tryd.prog 74 #[.int .u64 (p : Int), .slice A n c, .int .u64 (q : Int), .slice A' n' c'] w fun e w' => ∃ B k d, e = .returned (.slice B k d) ∧ Num w' (.slice B k d) R ∧ Below w.heap.size w w' := by
  have e : p * X - q * Y = R := by omega
  have h := diff_any hx.1 hy.1 p q hp hq (by rw [val_digs, val_digs]; omega) (by rw [val_digs, val_digs, e]; exact hl)
  rwa [val_digs, val_digs, e] at h
set_option maxRecDepth 100000 in
theorem shorten_v (hx : NV w (.slice A n c) X L) (hy : NV w (.slice A' n' c') Y L') (hle : Y ≤ X) (hY : 18446744073709551616 ≤ Y) (hL : L ≤ 1000000) :
    Calls Tryd.prog 43 #[.slice A n c, .slice A' n' c'] w fun e w' => ∃ B k d B' k' d' R R', e = .returned (.tuple #[.slice B k d, .slice B' k' d']) ∧ NV w' (.slice B k d) R L' ∧ NV w' (.slice B' k' d') R' L' ∧ R' ≤ R ∧ R' < Y ∧ Nat.gcd R R' = Nat.gcd X Y ∧ Below w.heap.size w w' := by
  have hbx := bitsN_64 (Nat.le_trans hY hle)
  have hbl := bitsN_le hx.2
  have hdx : Y < Bs (digs Y).length := lt_of_digs_length (Nat.le_refl _)
  obtain ⟨k, hk⟩ : ∃ k, bitsN X = k + 64 := ⟨bitsN X - 64, by omega⟩
  have ht := top_64 hk
  have hty : Y / 2 ^ k ≤ X / 2 ^ k := Nat.div_le_div_right hle
  have hpk : 0 < 2 ^ k := Nat.pow_pos (by omega)
  have HEU := Lib.hid (fun W => euclid_v (w := W) (X := X) (Y := Y) (B := 2 ^ k) (e := X % 2 ^ k) (f := Y % 2 ^ k) hty ht (by rw [Nat.mul_comm]; exact (Nat.div_add_mod X (2 ^ k)).symm) (by rw [Nat.mul_comm]; exact (Nat.div_add_mod Y (2 ^ k)).symm) (Nat.mod_lt _ hpk) (Nat.mod_lt _ hpk))
  have HBI := Lib.hid (fun W (hb : Below w.heap.size w W) => bits_v (hx.below hb).rv)
  have hk63 : k < 9223372036854775808 := by omega
  have hk0 : ((k : Int) + 64 - 64) = (k : Int) := by omega
  have HSX := Lib.hid (fun W (hb : Below w.heap.size w W) => shr_v (hx.below hb).rv k (by omega))
  have HSY := Lib.hid (fun W (hb : Below w.heap.size w W) => shr_v (hy.below hb).rv k (by omega))
  obtain ⟨tx, htx⟩ : ∃ t, X / 2 ^ k = t := ⟨_, rfl⟩
  obtain ⟨ty, hty2⟩ : ∃ t, Y / 2 ^ k = t := ⟨_, rfl⟩
  rw [htx] at HEU HSX ht hty
  rw [hty2] at HEU HSY hty
  have HUX := Lib.hid (fun (W : World) (A : Option Addr) (n c : Nat) (h : NV W (.slice A n c) tx L) => uint_small h.rv ht)
  have HUY := Lib.hid (fun (W : World) (A : Option Addr) (n c : Nat) (h : NV W (.slice A n c) ty L') => uint_small h.rv (by omega))
  have hkk := Lib.hid hk
  have hdd := Lib.hid hdx
  rw [hk] at HBI
  clear hbx hbl hk htx hty2 hpk hdx ht hty
  go_enter Tryd.func43, Tryd.ntmps43
  go_wp2_with fail
  refine (HBI.out _ (Below.refl _ _)).mono ?_
  rintro e w1 ⟨rfl, hb⟩
  have e1 : IntKind.i64.wrap (((k + 64 : Nat) : Int) - 64) = (k : Int) := by rw [IntKind.wrap_i64]; omega
  have e2 : IntKind.u64.wrap (k : Int) = (k : Int) := by rw [IntKind.wrap_u64]; omega
  have H0 := hb
  clear hb
  go_wp2_with fail
  refine (HSX.out _ H0).mono ?_
  rintro e w2 ⟨B2, m2, d2, rfl, f2, hb⟩
  replace H0 := H0.trans (hb.mono H0.size)
  clear hb HSX
  go_wp2_with fail
  refine (HUX.out _ _ _ _ f2).mono ?_
  rintro e w3 ⟨rfl, hb⟩
  replace H0 := H0.trans (hb.mono H0.size)
  clear hb HUX f2
  go_wp2_with fail
  refine (HSY.out _ H0).mono ?_
  rintro e w4 ⟨B4, m4, d4, rfl, f4, hb⟩
  replace H0 := H0.trans (hb.mono H0.size)
  clear hb HSY
  go_wp2_with fail
  refine (HUY.out _ _ _ _ f4).mono ?_
  rintro e w5 ⟨rfl, hb⟩
  replace H0 := H0.trans (hb.mono H0.size)
  clear hb HUY f4
  go_wp2_with fail
  refine (HEU.out _).mono ?_
  rintro e w6 ⟨u0, v0, u1, v1, s, rfl, hFa, hb⟩
  replace H0 := H0.trans (hb.mono H0.size)
  clear hb HEU HBI
  obtain ⟨W, hW, b0, hbW, hsW⟩ := boxes1 w6 #[.int .u64 u0, .int .u64 v0, .int .u64 u1, .int .u64 v1, .bool s] 100
  replace H0 := H0.trans (hbW.mono H0.size)
  clear hbW hsW
  subst hW
  have fx := hx.below H0
  have fy := hy.below H0
  unfold fac
  have hv : v0 = 0 ∨ 0 < v0 := by omega
  rcases hv with hv | hv
  · subst hv
    clear hFa
    go_wp2_with fail
    rw [Int.natCast_zero] at fx fy H0
    refine (divmod_v fx.rv fy.rv (by omega) hL).mono ?_
    rintro e w7 ⟨B1, k1, d1, B2, k2, d2, rfl, g1, g2, hb⟩
    replace H0 := H0.trans (hb.mono H0.size)
    replace fy := fy.below hb
    go_wp2_with fail
    go_returns
    have hm := Nat.mod_lt X (show 0 < Y by omega)
    exact ⟨_, _, _, _, _, _, Y, X % Y, rfl, fy, g2, by omega, hm, by rw [Nat.gcd_comm Y, Nat.gcd_comm X, ← Nat.gcd_rec], H0⟩
  · have hv0 : ¬ (v0 : Int) = 0 := by omega
    have hv0' : ¬ v0 = 0 := by omega
    rcases hFa with ⟨h, _⟩ | ⟨h, _⟩ | ⟨_, _, c1, c2, c3, c4, R, R', hLo, hR, hRY⟩
    · omega
    · omega
    have hg := lo_gcd hLo
    have FL := Lib.hid hLo
    have HG := Lib.hid hg
    clear hLo hg
    cases s
    · have D1 := Lib.hid (fun V (hb : Below (w6.alloc (.cells #[.int .u64 u0, .int .u64 v0, .int .u64 u1, .int .u64 v1, .bool false] 100)).drew.heap.size (w6.alloc (.cells #[.int .u64 u0, .int .u64 v0, .int .u64 u1, .int .u64 v1, .bool false] 100)).drew V) => diff_v ((show NV (w6.alloc (.cells #[.int .u64 u0, .int .u64 v0, .int .u64 u1, .int .u64 v1, .bool false] 100)).drew _ _ _ from fy).below hb) ((show NV (w6.alloc (.cells #[.int .u64 u0, .int .u64 v0, .int .u64 u1, .int .u64 v1, .bool false] 100)).drew _ _ _ from fx).below hb) v0 u0 c1 c2 (FL.out.2 rfl).1 (Nat.lt_of_le_of_lt hRY (Nat.lt_of_lt_of_le hdd.out (Bs_mono (Nat.le_max_left _ _)))))
      have D2 := Lib.hid (fun V (hb : Below (w6.alloc (.cells #[.int .u64 u0, .int .u64 v0, .int .u64 u1, .int .u64 v1, .bool false] 100)).drew.heap.size (w6.alloc (.cells #[.int .u64 u0, .int .u64 v0, .int .u64 u1, .int .u64 v1, .bool false] 100)).drew V) => diff_v ((show NV (w6.alloc (.cells #[.int .u64 u0, .int .u64 v0, .int .u64 u1, .int .u64 v1, .bool false] 100)).drew _ _ _ from fx).below hb) ((show NV (w6.alloc (.cells #[.int .u64 u0, .int .u64 v0, .int .u64 u1, .int .u64 v1, .bool false] 100)).drew _ _ _ from fy).below hb) u1 v1 c3 c4 (FL.out.2 rfl).2.1 (Nat.lt_of_lt_of_le (Nat.lt_of_lt_of_le (Nat.lt_of_lt_of_le hR hRY) (Nat.le_of_lt hdd.out)) (Bs_mono (Nat.le_max_right _ _))))
      go_wp2_with fail
      have hD := drawn1
      replace b0 : Box (w6.alloc (.cells #[.int .u64 u0, .int .u64 v0, .int .u64 u1, .int .u64 v1, .bool false] 100)).drew _ _ _ := b0
      replace H0 : Below w.heap.size w (w6.alloc (.cells #[.int .u64 u0, .int .u64 v0, .int .u64 u1, .int .u64 v1, .bool false] 100)).drew := H0.trans ((hD _).mono H0.size)
      clear hD
      go_region_held3 (fun V => V.cell? ⟨w6.heap.size, 0, none⟩ = some (.int .u64 (u0 : Int)) ∧ V.cell? ⟨w6.heap.size, 1, none⟩ = some (.int .u64 (v0 : Int)) ∧ V.cell? ⟨w6.heap.size, 2, none⟩ = some (.int .u64 (u1 : Int)) ∧ V.cell? ⟨w6.heap.size, 3, none⟩ = some (.int .u64 (v1 : Int))) (first | exact ⟨b0.cell 0 _ rfl, b0.cell 1 _ rfl, b0.cell 2 _ rfl, b0.cell 3 _ rfl⟩ | exact K2 | exact K1 | go_keep)
        (first
          | (go_at_call 74; with_reducible refine (D1.out _ (Below.refl _ _)).mono ?_; rintro e v1 ⟨B1, k1, d1, rfl, g1, hB1⟩; have K1 := And.intro ((b0.below hB1).cell 0 _ rfl) (And.intro ((b0.below hB1).cell 1 _ rfl) (And.intro ((b0.below hB1).cell 2 _ rfl) ((b0.below hB1).cell 3 _ rfl))))
          | (go_at_call 74; with_reducible refine (D2.out _ hB1).mono ?_; rintro e v2 ⟨B2, k2, d2, rfl, g2, hb2⟩; have hB2 := hB1.trans (hb2.mono hB1.size); have K2 := And.intro ((b0.below hB2).cell 0 _ rfl) (And.intro ((b0.below hB2).cell 1 _ rfl) (And.intro ((b0.below hB2).cell 2 _ rfl) ((b0.below hB2).cell 3 _ rfl))); have g1 := g1.below hb2)
        )
      have H9 := H0.trans (hB2.mono H0.size)
      go_wp2_with fail
      go_returns
      exact ⟨_, _, _, _, _, _, R, R', rfl, ⟨g1, Nat.lt_of_le_of_lt hRY hy.2⟩, ⟨g2, Nat.lt_trans (Nat.lt_of_lt_of_le hR hRY) hy.2⟩, Nat.le_of_lt hR, Nat.lt_of_lt_of_le hR hRY, HG.out, H9⟩
    · have D1 := Lib.hid (fun V (hb : Below (w6.alloc (.cells #[.int .u64 u0, .int .u64 v0, .int .u64 u1, .int .u64 v1, .bool true] 100)).drew.heap.size (w6.alloc (.cells #[.int .u64 u0, .int .u64 v0, .int .u64 u1, .int .u64 v1, .bool true] 100)).drew V) => diff_v ((show NV (w6.alloc (.cells #[.int .u64 u0, .int .u64 v0, .int .u64 u1, .int .u64 v1, .bool true] 100)).drew _ _ _ from fx).below hb) ((show NV (w6.alloc (.cells #[.int .u64 u0, .int .u64 v0, .int .u64 u1, .int .u64 v1, .bool true] 100)).drew _ _ _ from fy).below hb) u0 v0 c2 c1 (FL.out.1 rfl).1 (Nat.lt_of_le_of_lt hRY (Nat.lt_of_lt_of_le hdd.out (Bs_mono (Nat.le_max_right _ _)))))
      have D2 := Lib.hid (fun V (hb : Below (w6.alloc (.cells #[.int .u64 u0, .int .u64 v0, .int .u64 u1, .int .u64 v1, .bool true] 100)).drew.heap.size (w6.alloc (.cells #[.int .u64 u0, .int .u64 v0, .int .u64 u1, .int .u64 v1, .bool true] 100)).drew V) => diff_v ((show NV (w6.alloc (.cells #[.int .u64 u0, .int .u64 v0, .int .u64 u1, .int .u64 v1, .bool true] 100)).drew _ _ _ from fy).below hb) ((show NV (w6.alloc (.cells #[.int .u64 u0, .int .u64 v0, .int .u64 u1, .int .u64 v1, .bool true] 100)).drew _ _ _ from fx).below hb) v1 u1 c4 c3 (FL.out.1 rfl).2.1 (Nat.lt_of_lt_of_le (Nat.lt_of_lt_of_le (Nat.lt_of_lt_of_le hR hRY) (Nat.le_of_lt hdd.out)) (Bs_mono (Nat.le_max_left _ _))))
      go_wp2_with fail
      have hD := drawn1
      replace b0 : Box (w6.alloc (.cells #[.int .u64 u0, .int .u64 v0, .int .u64 u1, .int .u64 v1, .bool true] 100)).drew _ _ _ := b0
      replace H0 : Below w.heap.size w (w6.alloc (.cells #[.int .u64 u0, .int .u64 v0, .int .u64 u1, .int .u64 v1, .bool true] 100)).drew := H0.trans ((hD _).mono H0.size)
      clear hD
      go_region_held3 (fun V => V.cell? ⟨w6.heap.size, 0, none⟩ = some (.int .u64 (u0 : Int)) ∧ V.cell? ⟨w6.heap.size, 1, none⟩ = some (.int .u64 (v0 : Int)) ∧ V.cell? ⟨w6.heap.size, 2, none⟩ = some (.int .u64 (u1 : Int)) ∧ V.cell? ⟨w6.heap.size, 3, none⟩ = some (.int .u64 (v1 : Int))) (first | exact ⟨b0.cell 0 _ rfl, b0.cell 1 _ rfl, b0.cell 2 _ rfl, b0.cell 3 _ rfl⟩ | exact K2 | exact K1 | go_keep)
        (first
          | (go_at_call 74; with_reducible refine (D1.out _ (Below.refl _ _)).mono ?_; rintro e v1 ⟨B1, k1, d1, rfl, g1, hB1⟩; have K1 := And.intro ((b0.below hB1).cell 0 _ rfl) (And.intro ((b0.below hB1).cell 1 _ rfl) (And.intro ((b0.below hB1).cell 2 _ rfl) ((b0.below hB1).cell 3 _ rfl))))
          | (go_at_call 74; with_reducible refine (D2.out _ hB1).mono ?_; rintro e v2 ⟨B2, k2, d2, rfl, g2, hb2⟩; have hB2 := hB1.trans (hb2.mono hB1.size); have K2 := And.intro ((b0.below hB2).cell 0 _ rfl) (And.intro ((b0.below hB2).cell 1 _ rfl) (And.intro ((b0.below hB2).cell 2 _ rfl) ((b0.below hB2).cell 3 _ rfl))); have g1 := g1.below hb2)
        )
      have H9 := H0.trans (hB2.mono H0.size)
      go_wp2_with fail
      go_returns
      exact ⟨_, _, _, _, _, _, R, R', rfl, ⟨g1, Nat.lt_of_le_of_lt hRY hy.2⟩, ⟨g2, Nat.lt_trans (Nat.lt_of_lt_of_le hR hRY) hy.2⟩, Nat.le_of_lt hR, Nat.lt_of_lt_of_le hR hRY, HG.out, H9⟩
end
end Go.Proofs.YtpbfecbhdfnacaaDoor
