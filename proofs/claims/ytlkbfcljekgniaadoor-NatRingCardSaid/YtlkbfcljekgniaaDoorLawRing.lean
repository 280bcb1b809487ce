/-
  The walk of the law natring, out of the contracts of what it calls.
-/
import Derived.Test.YtlkbfcljekgniaaDoorVals
namespace Go.Proofs.YtlkbfcljekgniaaDoor
open Go.RowKit

set_option maxRecDepth 100000 in
set_option maxHeartbeats 4000000 in
theorem natring_any {v : Value} {w : World} (HI : Ints w v) : Calls Tryd.prog 12 #[v] w fun e w' => e = .returned (.bool true) ∧ Below w.heap.size w w' := by
  go_enter Tryd.func12, Tryd.ntmps12
  go_wp2_with fail
  refine (new_any HI).mono ?_
  rintro e w1 ⟨rfl, hT, H0, hsz⟩
  have hlt : w.heap.size < w1.heap.size := by omega
  clear hsz
  go_wp2_with fail
  refine (tapenat_v 6 (by omega) hT hlt).mono ?_
  rintro e w2 ⟨x, B2, k2, d2, rfl, hX2, hT, hg⟩
  replace hlt := Nat.lt_of_lt_of_le hlt hg.size
  replace H0 := H0.grown hg H0.size (by rintro k hk; injection hk with hk; omega)
  clear hg
  go_wp2_with fail
  refine (nats_v hX2 1 (by omega) hlt (by omega)).mono ?_
  rintro e w3 ⟨B3, k3, d3, rfl, fa, hb⟩
  clear hX2
  replace hT := hT.keep hb hlt
  replace hlt := Nat.lt_of_lt_of_le hlt hb.size
  replace H0 := H0.trans (hb.mono H0.size)
  clear hb
  go_wp2_with fail
  refine (tapenat_v 6 (by omega) hT hlt).mono ?_
  rintro e w4 ⟨y, B4, k4, d4, rfl, hX4, hT, hg⟩
  replace fa := fa.other hg
  replace hlt := Nat.lt_of_lt_of_le hlt hg.size
  replace H0 := H0.grown hg H0.size (by rintro k hk; injection hk with hk; omega)
  clear hg
  go_wp2_with fail
  refine (nats_v hX4 2 (by omega) hlt (by omega)).mono ?_
  rintro e w5 ⟨B5, k5, d5, rfl, fb, hb⟩
  clear hX4
  replace fa := fa.keep hb
  replace hT := hT.keep hb hlt
  replace hlt := Nat.lt_of_lt_of_le hlt hb.size
  replace H0 := H0.trans (hb.mono H0.size)
  clear hb
  go_wp2_with fail
  refine (tapenat_v 6 (by omega) hT hlt).mono ?_
  rintro e w6 ⟨z, B6, k6, d6, rfl, hX6, hT, hg⟩
  replace fa := fa.other hg
  replace fb := fb.other hg
  replace hlt := Nat.lt_of_lt_of_le hlt hg.size
  replace H0 := H0.grown hg H0.size (by rintro k hk; injection hk with hk; omega)
  clear hg
  go_wp2_with fail
  refine (nats0_v hX6 hlt (by omega)).mono ?_
  rintro e w7 ⟨B7, k7, d7, rfl, fc, hb⟩
  clear hX6
  replace fa := fa.keep hb
  replace fb := fb.keep hb
  replace hT := hT.keep hb hlt
  replace hlt := Nat.lt_of_lt_of_le hlt hb.size
  replace H0 := H0.trans (hb.mono H0.size)
  clear hb
  replace fa := fa.rv (by omega)
  replace fb := fb.rv (by omega)
  replace fc := fc.nv (by omega)
  clear hT hlt
  go_wp2_with fail
  refine (add_v fa fb (by omega) (by omega)).mono ?_
  rintro e w8 ⟨B8a, k8a, d8a, rfl, f1, hb⟩
  replace fa := fa.below hb
  replace fb := fb.below hb
  replace fc := fc.below hb
  replace H0 := H0.trans (hb.mono H0.size)
  clear hb
  go_wp2_with fail
  refine (sub_v f1.rv fb (by omega)).mono ?_
  rintro e w9 ⟨B9a, k9a, d9a, rfl, f2, hb⟩
  replace fa := fa.below hb
  replace fb := fb.below hb
  replace fc := fc.below hb
  replace f1 := f1.below hb
  replace H0 := H0.trans (hb.mono H0.size)
  clear hb
  clear f1
  go_wp2_with fail
  refine (known_any _).mono ?_
  rintro e w10 ⟨rfl, hb⟩
  replace fa := fa.below hb
  replace fb := fb.below hb
  replace fc := fc.below hb
  replace f2 := f2.below hb
  replace H0 := H0.trans (hb.mono H0.size)
  clear hb
  go_wp2_with fail
  refine (norm_v fa (by omega)).mono ?_
  rintro e w11 ⟨B11a, k11a, d11a, rfl, f3, hb⟩
  replace fa := fa.below hb
  replace fb := fb.below hb
  replace fc := fc.below hb
  replace f2 := f2.below hb
  replace H0 := H0.trans (hb.mono H0.size)
  clear hb
  go_wp2_with fail
  refine (same_v f2 f3 (by omega)).mono ?_
  rintro e w12 ⟨rfl, hb⟩
  replace fa := fa.below hb
  replace fb := fb.below hb
  replace fc := fc.below hb
  replace f2 := f2.below hb
  replace f3 := f3.below hb
  replace H0 := H0.trans (hb.mono H0.size)
  clear hb
  clear f2 f3
  go_wp2_with fail
  refine (add_v fa fb (by omega) (by omega)).mono ?_
  rintro e w13 ⟨B13a, k13a, d13a, rfl, g1, hb⟩
  replace fa := fa.below hb
  replace fb := fb.below hb
  replace fc := fc.below hb
  replace H0 := H0.trans (hb.mono H0.size)
  clear hb
  go_wp2_with fail
  refine (add_v fb fa (by omega) (by omega)).mono ?_
  rintro e w14 ⟨B14a, k14a, d14a, rfl, g2, hb⟩
  replace fa := fa.below hb
  replace fb := fb.below hb
  replace fc := fc.below hb
  replace g1 := g1.below hb
  replace H0 := H0.trans (hb.mono H0.size)
  clear hb
  go_wp2_with fail
  refine (same_v g1 g2 (Nat.add_comm _ _)).mono ?_
  rintro e w15 ⟨rfl, hb⟩
  replace fa := fa.below hb
  replace fb := fb.below hb
  replace fc := fc.below hb
  replace g1 := g1.below hb
  replace g2 := g2.below hb
  replace H0 := H0.trans (hb.mono H0.size)
  clear hb
  clear g1 g2
  go_wp2_with fail
  refine (mul_v fa fb (by omega) (by omega)).mono ?_
  rintro e w16 ⟨B16a, k16a, d16a, rfl, g1, hb⟩
  replace fa := fa.below hb
  replace fb := fb.below hb
  replace fc := fc.below hb
  replace H0 := H0.trans (hb.mono H0.size)
  clear hb
  go_wp2_with fail
  refine (mul_v fb fa (by omega) (by omega)).mono ?_
  rintro e w17 ⟨B17a, k17a, d17a, rfl, g2, hb⟩
  replace fa := fa.below hb
  replace fb := fb.below hb
  replace fc := fc.below hb
  replace g1 := g1.below hb
  replace H0 := H0.trans (hb.mono H0.size)
  clear hb
  go_wp2_with fail
  refine (same_v g1 g2 (Nat.mul_comm _ _)).mono ?_
  rintro e w18 ⟨rfl, hb⟩
  replace fa := fa.below hb
  replace fb := fb.below hb
  replace fc := fc.below hb
  replace g1 := g1.below hb
  replace g2 := g2.below hb
  replace H0 := H0.trans (hb.mono H0.size)
  clear hb
  clear g1 g2
  go_wp2_with fail
  refine (add_v fa fb (by omega) (by omega)).mono ?_
  rintro e w19 ⟨B19a, k19a, d19a, rfl, g1, hb⟩
  replace fa := fa.below hb
  replace fb := fb.below hb
  replace fc := fc.below hb
  replace H0 := H0.trans (hb.mono H0.size)
  clear hb
  go_wp2_with fail
  refine (add_v g1.rv fc.rv (by omega) (by omega)).mono ?_
  rintro e w20 ⟨B20a, k20a, d20a, rfl, g2, hb⟩
  replace fa := fa.below hb
  replace fb := fb.below hb
  replace fc := fc.below hb
  replace g1 := g1.below hb
  replace H0 := H0.trans (hb.mono H0.size)
  clear hb
  go_wp2_with fail
  refine (add_v fb fc.rv (by omega) (by omega)).mono ?_
  rintro e w21 ⟨B21a, k21a, d21a, rfl, g3, hb⟩
  replace fa := fa.below hb
  replace fb := fb.below hb
  replace fc := fc.below hb
  replace g1 := g1.below hb
  replace g2 := g2.below hb
  replace H0 := H0.trans (hb.mono H0.size)
  clear hb
  go_wp2_with fail
  refine (add_v fa g3.rv (by omega) (by omega)).mono ?_
  rintro e w22 ⟨B22a, k22a, d22a, rfl, g4, hb⟩
  replace fa := fa.below hb
  replace fb := fb.below hb
  replace fc := fc.below hb
  replace g1 := g1.below hb
  replace g2 := g2.below hb
  replace g3 := g3.below hb
  replace H0 := H0.trans (hb.mono H0.size)
  clear hb
  go_wp2_with fail
  refine (same_v g2 g4 (Nat.add_assoc _ _ _)).mono ?_
  rintro e w23 ⟨rfl, hb⟩
  replace fa := fa.below hb
  replace fb := fb.below hb
  replace fc := fc.below hb
  replace g1 := g1.below hb
  replace g2 := g2.below hb
  replace g3 := g3.below hb
  replace g4 := g4.below hb
  replace H0 := H0.trans (hb.mono H0.size)
  clear hb
  clear g1 g2 g3 g4
  go_wp2_with fail
  refine (mul_v fa fb (by omega) (by omega)).mono ?_
  rintro e w24 ⟨B24a, k24a, d24a, rfl, g1, hb⟩
  replace fa := fa.below hb
  replace fb := fb.below hb
  replace fc := fc.below hb
  replace H0 := H0.trans (hb.mono H0.size)
  clear hb
  go_wp2_with fail
  refine (mul_v g1.rv fc.rv (by omega) (by omega)).mono ?_
  rintro e w25 ⟨B25a, k25a, d25a, rfl, g2, hb⟩
  replace fa := fa.below hb
  replace fb := fb.below hb
  replace fc := fc.below hb
  replace g1 := g1.below hb
  replace H0 := H0.trans (hb.mono H0.size)
  clear hb
  go_wp2_with fail
  refine (mul_v fb fc.rv (by omega) (by omega)).mono ?_
  rintro e w26 ⟨B26a, k26a, d26a, rfl, g3, hb⟩
  replace fa := fa.below hb
  replace fb := fb.below hb
  replace fc := fc.below hb
  replace g1 := g1.below hb
  replace g2 := g2.below hb
  replace H0 := H0.trans (hb.mono H0.size)
  clear hb
  go_wp2_with fail
  refine (mul_v fa g3.rv (by omega) (by omega)).mono ?_
  rintro e w27 ⟨B27a, k27a, d27a, rfl, g4, hb⟩
  replace fa := fa.below hb
  replace fb := fb.below hb
  replace fc := fc.below hb
  replace g1 := g1.below hb
  replace g2 := g2.below hb
  replace g3 := g3.below hb
  replace H0 := H0.trans (hb.mono H0.size)
  clear hb
  go_wp2_with fail
  refine (same_v g2 g4 (Nat.mul_assoc _ _ _)).mono ?_
  rintro e w28 ⟨rfl, hb⟩
  replace fa := fa.below hb
  replace fb := fb.below hb
  replace fc := fc.below hb
  replace g1 := g1.below hb
  replace g2 := g2.below hb
  replace g3 := g3.below hb
  replace g4 := g4.below hb
  replace H0 := H0.trans (hb.mono H0.size)
  clear hb
  clear g1 g2 g3 g4
  go_wp2_with fail
  refine (add_v fb fc.rv (by omega) (by omega)).mono ?_
  rintro e w29 ⟨B29a, k29a, d29a, rfl, g1, hb⟩
  replace fa := fa.below hb
  replace fb := fb.below hb
  replace fc := fc.below hb
  replace H0 := H0.trans (hb.mono H0.size)
  clear hb
  go_wp2_with fail
  refine (mul_v fa g1.rv (by omega) (by omega)).mono ?_
  rintro e w30 ⟨B30a, k30a, d30a, rfl, g2, hb⟩
  replace fa := fa.below hb
  replace fb := fb.below hb
  replace fc := fc.below hb
  replace g1 := g1.below hb
  replace H0 := H0.trans (hb.mono H0.size)
  clear hb
  go_wp2_with fail
  refine (mul_v fa fb (by omega) (by omega)).mono ?_
  rintro e w31 ⟨B31a, k31a, d31a, rfl, g3, hb⟩
  replace fa := fa.below hb
  replace fb := fb.below hb
  replace fc := fc.below hb
  replace g1 := g1.below hb
  replace g2 := g2.below hb
  replace H0 := H0.trans (hb.mono H0.size)
  clear hb
  go_wp2_with fail
  refine (mul_v fa fc.rv (by omega) (by omega)).mono ?_
  rintro e w32 ⟨B32a, k32a, d32a, rfl, g4, hb⟩
  replace fa := fa.below hb
  replace fb := fb.below hb
  replace fc := fc.below hb
  replace g1 := g1.below hb
  replace g2 := g2.below hb
  replace g3 := g3.below hb
  replace H0 := H0.trans (hb.mono H0.size)
  clear hb
  go_wp2_with fail
  refine (add_v g3.rv g4.rv (by omega) (by omega)).mono ?_
  rintro e w33 ⟨B33a, k33a, d33a, rfl, g5, hb⟩
  replace fa := fa.below hb
  replace fb := fb.below hb
  replace fc := fc.below hb
  replace g1 := g1.below hb
  replace g2 := g2.below hb
  replace g3 := g3.below hb
  replace g4 := g4.below hb
  replace H0 := H0.trans (hb.mono H0.size)
  clear hb
  go_wp2_with fail
  refine (same_v g2 g5 (Nat.mul_add _ _ _)).mono ?_
  rintro e w34 ⟨rfl, hb⟩
  replace fa := fa.below hb
  replace fb := fb.below hb
  replace fc := fc.below hb
  replace g1 := g1.below hb
  replace g2 := g2.below hb
  replace g3 := g3.below hb
  replace g4 := g4.below hb
  replace g5 := g5.below hb
  replace H0 := H0.trans (hb.mono H0.size)
  clear hb
  clear g1 g2 g3 g4 g5
  go_wp2_with fail
  go_ret
  exact ⟨rfl, H0⟩
end Go.Proofs.YtlkbfcljekgniaaDoor
