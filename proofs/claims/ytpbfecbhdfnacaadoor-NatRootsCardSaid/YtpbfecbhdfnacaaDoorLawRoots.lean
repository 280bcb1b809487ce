/-
  The walk of the law natroots, out of the contracts of what it calls.
-/
import Derived.Test.YtpbfecbhdfnacaaDoorSqrt
import Derived.Test.YtpbfecbhdfnacaaDoorGcd
namespace Go.Proofs.YtpbfecbhdfnacaaDoor
open Go.RowKit

theorem root_sq (x : Nat) : x * x ≤ x * x ∧ x * x < (x + 1) * (x + 1) := ⟨Nat.le_refl _, by rw [Nat.add_mul, Nat.mul_add]; omega⟩
theorem root_sq2 (x : Nat) : x * x ≤ x * x + (x + x) ∧ x * x + (x + x) < (x + 1) * (x + 1) := ⟨Nat.le_add_right _ _, by rw [Nat.add_mul, Nat.mul_add]; omega⟩
set_option maxRecDepth 100000 in
set_option maxHeartbeats 8000000 in
theorem natroots_any {v : Value} {w : World} (HI : Ints w v) : Calls Tryd.prog 4 #[v] w fun e w' => e = .returned (.bool true) ∧ Below w.heap.size w w' := by
  go_enter Tryd.func4, Tryd.ntmps4
  go_wp2_with fail
  refine (new_any HI).mono ?_
  rintro e w1 ⟨rfl, hT, H0, hsz⟩
  have hlt : w.heap.size < w1.heap.size := by omega
  clear hsz
  go_wp2_with fail
  refine (tapenat_v 5 (by omega) hT hlt).mono ?_
  rintro e w2 ⟨x, B2, k2, d2, rfl, hX2, hT, hg⟩
  replace hlt := Nat.lt_of_lt_of_le hlt hg.size
  replace H0 := H0.grown hg H0.size (by rintro k hk; injection hk with hk; omega)
  clear hg
  go_wp2_with fail
  refine (nats0_v hX2 hlt (by omega)).mono ?_
  rintro e w3 ⟨B3, k3, d3, rfl, fa, hb⟩
  clear hX2
  replace hT := hT.keep hb hlt
  replace hlt := Nat.lt_of_lt_of_le hlt hb.size
  replace H0 := H0.trans (hb.mono H0.size)
  clear hb
  go_wp2_with fail
  refine (tapenat_v 5 (by omega) hT hlt).mono ?_
  rintro e w4 ⟨y, B4, k4, d4, rfl, hX4, hT, hg⟩
  replace fa := fa.other hg
  replace hlt := Nat.lt_of_lt_of_le hlt hg.size
  replace H0 := H0.grown hg H0.size (by rintro k hk; injection hk with hk; omega)
  clear hg
  go_wp2_with fail
  refine (nats0_v hX4 hlt (by omega)).mono ?_
  rintro e w5 ⟨B5, k5, d5, rfl, fb, hb⟩
  clear hX4
  replace fa := fa.keep hb
  replace hT := hT.keep hb hlt
  replace hlt := Nat.lt_of_lt_of_le hlt hb.size
  replace H0 := H0.trans (hb.mono H0.size)
  clear hb
  go_wp2_with fail
  refine (tapenat_v 3 (by omega) hT hlt).mono ?_
  rintro e w6 ⟨z, B6, k6, d6, rfl, hX6, hT, hg⟩
  replace fa := fa.other hg
  replace fb := fb.other hg
  replace hlt := Nat.lt_of_lt_of_le hlt hg.size
  replace H0 := H0.grown hg H0.size (by rintro k hk; injection hk with hk; omega)
  clear hg
  go_wp2_with fail
  refine (nats0_v hX6 hlt (by omega)).mono ?_
  rintro e w7 ⟨B7, k7, d7, rfl, fc, hb⟩
  clear hX6
  replace fa := fa.keep hb
  replace fb := fb.keep hb
  replace hT := hT.keep hb hlt
  replace hlt := Nat.lt_of_lt_of_le hlt hb.size
  replace H0 := H0.trans (hb.mono H0.size)
  clear hb
  replace fa := fa.nv (by omega)
  replace fb := fb.nv (by omega)
  replace fc := fc.nv (by omega)
  clear hT hlt
  go_wp2_with fail
  refine (mul_v fa.rv fa.rv (by omega) (by omega)).mono ?_
  rintro e w8 ⟨B8a, k8a, d8a, rfl, fs, hb⟩
  replace fa := fa.below hb
  replace fb := fb.below hb
  replace fc := fc.below hb
  replace H0 := H0.trans (hb.mono H0.size)
  clear hb
  go_wp2_with fail
  refine (known_any _).mono ?_
  rintro e w9 ⟨rfl, hb⟩
  replace fa := fa.below hb
  replace fb := fb.below hb
  replace fc := fc.below hb
  replace fs := fs.below hb
  replace H0 := H0.trans (hb.mono H0.size)
  clear hb
  go_wp2_with fail
  refine (sqrt_v fs.rv (by omega) (r := x) (root_sq x)).mono ?_
  rintro e w10 ⟨B10a, k10a, d10a, rfl, g1, hb⟩
  replace fa := fa.below hb
  replace fb := fb.below hb
  replace fc := fc.below hb
  replace fs := fs.below hb
  replace H0 := H0.trans (hb.mono H0.size)
  clear hb
  go_wp2_with fail
  refine (same_v g1 fa rfl).mono ?_
  rintro e w11 ⟨rfl, hb⟩
  replace fa := fa.below hb
  replace fb := fb.below hb
  replace fc := fc.below hb
  replace fs := fs.below hb
  replace g1 := g1.below hb
  replace H0 := H0.trans (hb.mono H0.size)
  clear hb
  clear g1
  go_wp2_with fail
  refine (add_v fa.rv fa.rv (by omega) (by omega)).mono ?_
  rintro e w12 ⟨B12a, k12a, d12a, rfl, g2, hb⟩
  replace fa := fa.below hb
  replace fb := fb.below hb
  replace fc := fc.below hb
  replace fs := fs.below hb
  replace H0 := H0.trans (hb.mono H0.size)
  clear hb
  go_wp2_with fail
  refine (add_v fs.rv g2.rv (by omega) (by omega)).mono ?_
  rintro e w13 ⟨B13a, k13a, d13a, rfl, g3, hb⟩
  replace fa := fa.below hb
  replace fb := fb.below hb
  replace fc := fc.below hb
  replace fs := fs.below hb
  replace g2 := g2.below hb
  replace H0 := H0.trans (hb.mono H0.size)
  clear hb
  clear g2 fs
  go_wp2_with fail
  refine (sqrt_v g3.rv (by omega) (r := x) (root_sq2 x)).mono ?_
  rintro e w14 ⟨B14a, k14a, d14a, rfl, g4, hb⟩
  replace fa := fa.below hb
  replace fb := fb.below hb
  replace fc := fc.below hb
  replace g3 := g3.below hb
  replace H0 := H0.trans (hb.mono H0.size)
  clear hb
  go_wp2_with fail
  refine (same_v g4 fa rfl).mono ?_
  rintro e w15 ⟨rfl, hb⟩
  replace fa := fa.below hb
  replace fb := fb.below hb
  replace fc := fc.below hb
  replace g3 := g3.below hb
  replace g4 := g4.below hb
  replace H0 := H0.trans (hb.mono H0.size)
  clear hb
  clear g3 g4
  go_wp2_with fail
  refine (mul_v fa.rv fc.rv (by omega) (by omega)).mono ?_
  rintro e w16 ⟨B16a, k16a, d16a, rfl, g5, hb⟩
  replace fa := fa.below hb
  replace fb := fb.below hb
  replace fc := fc.below hb
  replace H0 := H0.trans (hb.mono H0.size)
  clear hb
  go_wp2_with fail
  refine (mul_v fb.rv fc.rv (by omega) (by omega)).mono ?_
  rintro e w17 ⟨B17a, k17a, d17a, rfl, g6, hb⟩
  replace fa := fa.below hb
  replace fb := fb.below hb
  replace fc := fc.below hb
  replace g5 := g5.below hb
  replace H0 := H0.trans (hb.mono H0.size)
  clear hb
  go_wp2_with fail
  refine (gcd_v g5.rv g6.rv (by omega) (by omega)).mono ?_
  rintro e w18 ⟨B18a, k18a, d18a, rfl, g7, hb⟩
  replace fa := fa.below hb
  replace fb := fb.below hb
  replace fc := fc.below hb
  replace g5 := g5.below hb
  replace g6 := g6.below hb
  replace H0 := H0.trans (hb.mono H0.size)
  clear hb
  clear g5 g6
  go_wp2_with fail
  refine (gcd_v fa.rv fb.rv (by omega) (by omega)).mono ?_
  rintro e w19 ⟨B19a, k19a, d19a, rfl, g8, hb⟩
  replace fa := fa.below hb
  replace fb := fb.below hb
  replace fc := fc.below hb
  replace g7 := g7.below hb
  replace H0 := H0.trans (hb.mono H0.size)
  clear hb
  go_wp2_with fail
  refine (mul_v g8.rv fc.rv (by omega) (by omega)).mono ?_
  rintro e w20 ⟨B20a, k20a, d20a, rfl, g9, hb⟩
  replace fa := fa.below hb
  replace fb := fb.below hb
  replace fc := fc.below hb
  replace g7 := g7.below hb
  replace g8 := g8.below hb
  replace H0 := H0.trans (hb.mono H0.size)
  clear hb
  go_wp2_with fail
  refine (same_v g7 g9 (Nat.gcd_mul_right _ _ _)).mono ?_
  rintro e w21 ⟨rfl, hb⟩
  replace fa := fa.below hb
  replace fb := fb.below hb
  replace fc := fc.below hb
  replace g7 := g7.below hb
  replace g8 := g8.below hb
  replace g9 := g9.below hb
  replace H0 := H0.trans (hb.mono H0.size)
  clear hb
  go_wp2_with fail
  go_ret
  exact ⟨rfl, H0⟩
end Go.Proofs.YtpbfecbhdfnacaaDoor
