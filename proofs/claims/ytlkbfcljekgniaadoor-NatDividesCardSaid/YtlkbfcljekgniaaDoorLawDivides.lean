/-
  The walk of the law natdivides, out of the contracts of what it calls.
-/
import Derived.Test.YtlkbfcljekgniaaDoorVals
import Derived.Test.YtlkbfcljekgniaaDoorDivMod
namespace Go.Proofs.YtlkbfcljekgniaaDoor
open Go.RowKit

set_option maxRecDepth 100000 in
set_option maxHeartbeats 4000000 in
theorem natdivides_any {v : Value} {w : World} (HI : Ints w v) : Calls Tryd.prog 6 #[v] w fun e w' => e = .returned (.bool true) ∧ Below w.heap.size w w' := by
  go_enter Tryd.func6, Tryd.ntmps6
  go_wp2_with fail
  refine (new_any HI).mono ?_
  rintro e w1 ⟨rfl, hT, H0, hsz⟩
  have hlt : w.heap.size < w1.heap.size := by omega
  clear hsz
  go_wp2_with fail
  refine (tapenat_v 12 (by omega) hT hlt).mono ?_
  rintro e w2 ⟨x, B2, k2, d2, rfl, hX2, hT, hg⟩
  replace hlt := Nat.lt_of_lt_of_le hlt hg.size
  replace H0 := H0.grown hg H0.size (by rintro k hk; injection hk with hk; omega)
  clear hg
  go_wp2_with fail
  refine (nats0_v hX2 hlt (by omega)).mono ?_
  rintro e w3 ⟨B3, k3, d3, rfl, fa, hb⟩
  clear hX2
  replace hT := hT.keep hb hlt
  replace hlt := Nat.lt_of_lt_of_le hlt hb.size
  replace H0 := H0.trans (hb.mono H0.size)
  clear hb
  go_wp2_with fail
  refine (tapenat_v 6 (by omega) hT hlt).mono ?_
  rintro e w4 ⟨y, B4, k4, d4, rfl, hX4, hT, hg⟩
  replace fa := fa.other hg
  replace hlt := Nat.lt_of_lt_of_le hlt hg.size
  replace H0 := H0.grown hg H0.size (by rintro k hk; injection hk with hk; omega)
  clear hg
  go_wp2_with fail
  refine (nats0_v hX4 hlt (by omega)).mono ?_
  rintro e w5 ⟨B5, k5, d5, rfl, fb, hb⟩
  clear hX4
  replace fa := fa.keep hb
  replace hT := hT.keep hb hlt
  replace hlt := Nat.lt_of_lt_of_le hlt hb.size
  replace H0 := H0.trans (hb.mono H0.size)
  clear hb
  replace fa := fa.nv (by omega)
  replace fb := fb.nv (by omega)
  clear hT hlt
  rcases Nat.eq_zero_or_pos y with rfl | hy
  · have hk0 : k5 = 0 := by have h := (Raw.cap fb.1).1; rw [digs_zero] at h; exact h
    subst hk0
    go_wp2_with fail
    refine (divmod0_v fa.rv fb.rv).mono ?_
    rintro e w6 ⟨rfl, hb⟩
    replace fa := fa.below hb
    replace fb := fb.below hb
    replace H0 := H0.trans (hb.mono H0.size)
    clear hb
    go_wp2_with fail
    refine (known_any _).mono ?_
    rintro e w7 ⟨rfl, hb⟩
    replace fa := fa.below hb
    replace fb := fb.below hb
    replace H0 := H0.trans (hb.mono H0.size)
    clear hb
    go_wp2_with fail
    go_ret
    exact ⟨rfl, H0⟩
  · have hkp : 0 < k5 := by rw [(Raw.cap fb.1).1]; exact digs_length_pos hy
    have hkb : ((k5 : Int) == 0) = false := by rw [beq_eq_false_iff_ne]; omega
    clear hkp
    go_wp2_with fail
    refine (divmod_v fa.rv fb.rv hy (by omega)).mono ?_
    rintro e w6 ⟨B6a, k6a, d6a, B6b, k6b, d6b, rfl, fq, fr, hb⟩
    replace fa := fa.below hb
    replace fb := fb.below hb
    replace H0 := H0.trans (hb.mono H0.size)
    clear hb
    go_wp2_with fail
    refine (known_any _).mono ?_
    rintro e w7 ⟨rfl, hb⟩
    replace fa := fa.below hb
    replace fb := fb.below hb
    replace fq := fq.below hb
    replace fr := fr.below hb
    replace H0 := H0.trans (hb.mono H0.size)
    clear hb
    go_wp2_with fail
    refine (cmp_v fr.rv fb.rv).mono ?_
    rintro e w8 ⟨rfl, hb⟩
    replace fa := fa.below hb
    replace fb := fb.below hb
    replace fq := fq.below hb
    replace fr := fr.below hb
    replace H0 := H0.trans (hb.mono H0.size)
    clear hb
    rw [cmpI_lt (Nat.mod_lt x hy)]
    go_wp2_with fail
    refine (mul_v fq.rv fb.rv (by omega) (by omega)).mono ?_
    rintro e w9 ⟨B9a, k9a, d9a, rfl, g1, hb⟩
    replace fa := fa.below hb
    replace fb := fb.below hb
    replace fq := fq.below hb
    replace fr := fr.below hb
    replace H0 := H0.trans (hb.mono H0.size)
    clear hb
    go_wp2_with fail
    refine (add_v g1.rv fr.rv (by omega) (by omega)).mono ?_
    rintro e w10 ⟨B10a, k10a, d10a, rfl, g2, hb⟩
    replace fa := fa.below hb
    replace fb := fb.below hb
    replace fq := fq.below hb
    replace fr := fr.below hb
    replace g1 := g1.below hb
    replace H0 := H0.trans (hb.mono H0.size)
    clear hb
    go_wp2_with fail
    refine (same_v g2 fa (by rw [Nat.mul_comm]; exact Nat.div_add_mod x y)).mono ?_
    rintro e w11 ⟨rfl, hb⟩
    replace fa := fa.below hb
    replace fb := fb.below hb
    replace fq := fq.below hb
    replace fr := fr.below hb
    replace g1 := g1.below hb
    replace g2 := g2.below hb
    replace H0 := H0.trans (hb.mono H0.size)
    clear hb
    go_wp2_with fail
    go_ret
    exact ⟨rfl, H0⟩
end Go.Proofs.YtlkbfcljekgniaaDoor
