/-
  The walk of the law natlong, out of the contracts of what it calls.
-/
import Derived.Test.YtacfdcfkfjildaaDoorLawComputes
import Derived.Test.YtacfdcfkfjildaaDoorMade
namespace Go.Proofs.YtacfdcfkfjildaaDoor
open Go.RowKit

set_option maxRecDepth 100000 in
set_option maxHeartbeats 8000000 in
theorem natlong_any {v : Value} {w : World} (HI : Ints w v) : Calls Tryd.prog 4 #[v] w fun e w' => e = .returned (.bool true) ∧ Below w.heap.size w w' := by
  go_enter Tryd.func4, Tryd.ntmps4
  go_wp2_with fail
  refine (new_any HI).mono ?_
  rintro e w1 ⟨rfl, hT, H0, hsz⟩
  have hlt : w.heap.size < w1.heap.size := by omega
  clear hsz
  go_wp2_with fail
  have hT0 := hT
  refine (tapenat_v 12 (by omega) hT hlt).mono ?_
  rintro e w2 ⟨x, B2, k2, d2, rfl, fa, hT, hg⟩
  replace hlt := Nat.lt_of_lt_of_le hlt hg.size
  replace H0 := H0.grown hg H0.size (by rintro k hk; injection hk with hk; omega)
  clear hg hT0
  go_wp2_with fail
  have hT0 := hT
  refine (tapenat_v 6 (by omega) hT hlt).mono ?_
  rintro e w3 ⟨y, B3, k3, d3, rfl, fb, hT, hg⟩
  replace fa := fa.other hT0 hg
  replace hlt := Nat.lt_of_lt_of_le hlt hg.size
  replace H0 := H0.grown hg H0.size (by rintro k hk; injection hk with hk; omega)
  clear hg hT0
  go_wp2_with fail
  have hT0 := hT
  refine (next_any 2 (by omega) (by omega) hT).mono ?_
  rintro e w4 ⟨r, rfl, hr, hT, hg⟩
  replace fa := fa.other hT0 hg
  replace fb := fb.other hT0 hg
  replace hlt := Nat.lt_of_lt_of_le hlt hg.size
  replace H0 := H0.grown hg H0.size (by rintro k hk; injection hk with hk; omega)
  clear hg hT0
  rcases Nat.eq_zero_or_pos r with rfl | hr0
  · rcases Nat.eq_zero_or_pos k3 with rfl | hk0
    · go_wp2_with fail
      have hT0 := hT
      refine (next_any 3 (by omega) (by omega) hT).mono ?_
      rintro e w5 ⟨r1, rfl, hr1, hT, hg⟩
      replace fa := fa.other hT0 hg
      replace fb := fb.other hT0 hg
      replace hlt := Nat.lt_of_lt_of_le hlt hg.size
      replace H0 := H0.grown hg H0.size (by rintro k hk; injection hk with hk; omega)
      clear hg hT0
      go_wp2_with fail
      refine (nats_v fa r1 (by omega) hlt (by omega)).mono ?_
      rintro e w6 ⟨B6, k6, d6, rfl, ga, hb⟩
      replace fb := fb.below hb
      replace hT := hT.keep hb hlt
      replace hlt := Nat.lt_of_lt_of_le hlt hb.size
      replace H0 := H0.trans (hb.mono H0.size)
      clear hb fa
      go_wp2_with fail
      have hT0 := hT
      refine (next_any 3 (by omega) (by omega) hT).mono ?_
      rintro e w7 ⟨r2, rfl, hr2, hT, hg⟩
      replace ga := ga.other hg
      replace fb := fb.other hT0 hg
      replace hlt := Nat.lt_of_lt_of_le hlt hg.size
      replace H0 := H0.grown hg H0.size (by rintro k hk; injection hk with hk; omega)
      clear hg hT0
      go_wp2_with fail
      refine (nats_v fb r2 (by omega) hlt (by omega)).mono ?_
      rintro e w8 ⟨B8, k8, d8, rfl, gb, hb⟩
      replace ga := ga.keep hb
      replace H0 := H0.trans (hb.mono H0.size)
      clear hb hT hlt fb
      replace ga := ga.rv (by omega)
      replace gb := gb.rv (by omega)
      go_wp2_with fail
      refine (natcomputes_any (fun _ => by obtain ⟨ds, h, _⟩ := ga; exact ⟨ds, h⟩) (fun _ => by obtain ⟨ds, h, _⟩ := gb; exact ⟨ds, h⟩)).mono ?_
      rintro e w9 ⟨rfl, hb⟩
      replace H0 := H0.trans (hb.mono H0.size)
      go_wp2_with fail
      go_returns
      exact ⟨rfl, H0⟩
    · have hkd : decide ((0 : Int) < (k3 : Int)) = true := decide_eq_true (by omega)
      go_wp2_with fail
      refine (nprod_v fa fb (by omega) (by omega)).mono ?_
      rintro e w5 ⟨B5, k5, d5, rfl, fp, hb⟩
      replace fa := fa.below hb
      replace fb := fb.below hb
      replace hT := hT.keep hb hlt
      replace hlt := Nat.lt_of_lt_of_le hlt hb.size
      replace H0 := H0.trans (hb.mono H0.size)
      clear hb
      go_wp2_with fail
      have hT0 := hT
      refine (tapenat_v 3 (by omega) hT hlt).mono ?_
      rintro e w6 ⟨z, B6, k6, d6, rfl, fz, hT, hg⟩
      replace fa := fa.other hT0 hg
      replace fb := fb.other hT0 hg
      replace fp := fp.other hT0 hg
      replace hlt := Nat.lt_of_lt_of_le hlt hg.size
      replace H0 := H0.grown hg H0.size (by rintro k hk; injection hk with hk; omega)
      clear hg hT0
      go_wp2_with fail
      refine (nsum_v fp fz (by omega) (by omega)).mono ?_
      rintro e w7 ⟨B7, k7, d7, rfl, fs, hb⟩
      replace fb := fb.below hb
      replace hT := hT.keep hb hlt
      replace hlt := Nat.lt_of_lt_of_le hlt hb.size
      replace H0 := H0.trans (hb.mono H0.size)
      clear hb
      clear fa fp fz
      go_wp2_with fail
      have hT0 := hT
      refine (next_any 3 (by omega) (by omega) hT).mono ?_
      rintro e w8 ⟨r1, rfl, hr1, hT, hg⟩
      replace fs := fs.other hT0 hg
      replace fb := fb.other hT0 hg
      replace hlt := Nat.lt_of_lt_of_le hlt hg.size
      replace H0 := H0.grown hg H0.size (by rintro k hk; injection hk with hk; omega)
      clear hg hT0
      go_wp2_with fail
      refine (nats_v fs r1 (by omega) hlt (by omega)).mono ?_
      rintro e w9 ⟨B9, k9, d9, rfl, ga, hb⟩
      replace fb := fb.below hb
      replace hT := hT.keep hb hlt
      replace hlt := Nat.lt_of_lt_of_le hlt hb.size
      replace H0 := H0.trans (hb.mono H0.size)
      clear hb fs
      go_wp2_with fail
      have hT0 := hT
      refine (next_any 3 (by omega) (by omega) hT).mono ?_
      rintro e w10 ⟨r2, rfl, hr2, hT, hg⟩
      replace ga := ga.other hg
      replace fb := fb.other hT0 hg
      replace hlt := Nat.lt_of_lt_of_le hlt hg.size
      replace H0 := H0.grown hg H0.size (by rintro k hk; injection hk with hk; omega)
      clear hg hT0
      go_wp2_with fail
      refine (nats_v fb r2 (by omega) hlt (by omega)).mono ?_
      rintro e w11 ⟨B11, k11, d11, rfl, gb, hb⟩
      replace ga := ga.keep hb
      replace H0 := H0.trans (hb.mono H0.size)
      clear hb hT hlt fb
      replace ga := ga.rv (by omega)
      replace gb := gb.rv (by omega)
      go_wp2_with fail
      refine (natcomputes_any (fun _ => by obtain ⟨ds, h, _⟩ := ga; exact ⟨ds, h⟩) (fun _ => by obtain ⟨ds, h, _⟩ := gb; exact ⟨ds, h⟩)).mono ?_
      rintro e w12 ⟨rfl, hb⟩
      replace H0 := H0.trans (hb.mono H0.size)
      go_wp2_with fail
      go_returns
      exact ⟨rfl, H0⟩
  · have hrn : ((r : Int) == 0) = false := by rw [beq_eq_false_iff_ne]; omega
    go_wp2_with fail
    have hT0 := hT
    refine (next_any 3 (by omega) (by omega) hT).mono ?_
    rintro e w5 ⟨r1, rfl, hr1, hT, hg⟩
    replace fa := fa.other hT0 hg
    replace fb := fb.other hT0 hg
    replace hlt := Nat.lt_of_lt_of_le hlt hg.size
    replace H0 := H0.grown hg H0.size (by rintro k hk; injection hk with hk; omega)
    clear hg hT0
    go_wp2_with fail
    refine (nats_v fa r1 (by omega) hlt (by omega)).mono ?_
    rintro e w6 ⟨B6, k6, d6, rfl, ga, hb⟩
    replace fb := fb.below hb
    replace hT := hT.keep hb hlt
    replace hlt := Nat.lt_of_lt_of_le hlt hb.size
    replace H0 := H0.trans (hb.mono H0.size)
    clear hb fa
    go_wp2_with fail
    have hT0 := hT
    refine (next_any 3 (by omega) (by omega) hT).mono ?_
    rintro e w7 ⟨r2, rfl, hr2, hT, hg⟩
    replace ga := ga.other hg
    replace fb := fb.other hT0 hg
    replace hlt := Nat.lt_of_lt_of_le hlt hg.size
    replace H0 := H0.grown hg H0.size (by rintro k hk; injection hk with hk; omega)
    clear hg hT0
    go_wp2_with fail
    refine (nats_v fb r2 (by omega) hlt (by omega)).mono ?_
    rintro e w8 ⟨B8, k8, d8, rfl, gb, hb⟩
    replace ga := ga.keep hb
    replace H0 := H0.trans (hb.mono H0.size)
    clear hb hT hlt fb
    replace ga := ga.rv (by omega)
    replace gb := gb.rv (by omega)
    go_wp2_with fail
    refine (natcomputes_any (fun _ => by obtain ⟨ds, h, _⟩ := ga; exact ⟨ds, h⟩) (fun _ => by obtain ⟨ds, h, _⟩ := gb; exact ⟨ds, h⟩)).mono ?_
    rintro e w9 ⟨rfl, hb⟩
    replace H0 := H0.trans (hb.mono H0.size)
    go_wp2_with fail
    go_returns
    exact ⟨rfl, H0⟩
end Go.Proofs.YtacfdcfkfjildaaDoor
