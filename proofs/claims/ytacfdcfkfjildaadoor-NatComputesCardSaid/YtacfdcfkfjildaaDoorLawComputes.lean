/-
  The walk of the law natcomputes, out of the contracts of what it calls.
-/
import Derived.Test.YtacfdcfkfjildaaDoorRefV
import Derived.Test.YtacfdcfkfjildaaDoorBox
import Derived.Test.YtacfdcfkfjildaaDoorDivMod
namespace Go.Proofs.YtacfdcfkfjildaaDoor
open Go.RowKit

set_option maxRecDepth 100000 in
set_option maxHeartbeats 8000000 in
theorem natcomputes_any {A A' : Option Addr} {n n' c c' : Nat} {w : World} (HA : n ≤ 40 → ∃ ds, Raw w (.slice A n c) ds) (HB : n' ≤ 40 → ∃ ds, Raw w (.slice A' n' c') ds) : Calls Tryd.prog 3 #[.slice A n c, .slice A' n' c'] w fun e w' => e = .returned (.bool true) ∧ Below w.heap.size w w' := by
  obtain ⟨V, hV, b0, H0, hsV⟩ := boxes1 w #[.slice A n c, .slice A' n' c'] 23
  have hc0 := b0.cell 0 _ rfl
  have hc1 := b0.cell 1 _ rfl
  clear b0 hsV
  rcases Nat.lt_or_ge 40 n with h40 | h40
  · have HS := Lib.hid (small2_first hc0 h40)
    clear h40 hc0 hc1
    go_enter Tryd.func3, Tryd.ntmps3
    go_wp2_with fail
    refine HS.out.mono ?_
    rintro e w0 ⟨rfl, rfl⟩
    go_wp2_with fail
    refine (known_any _).mono ?_
    rintro e w1 ⟨rfl, hb⟩
    replace H0 := H0.trans (hb.mono H0.size)
    clear hb
    go_wp2_with fail
    go_ret
    exact ⟨rfl, H0⟩
  · rcases Nat.lt_or_ge 40 n' with h41 | h41
    · have HS := Lib.hid (small2_second hc0 hc1 h40 h41)
      clear h40 h41 hc0 hc1
      go_enter Tryd.func3, Tryd.ntmps3
      go_wp2_with fail
      refine HS.out.mono ?_
      rintro e w0 ⟨rfl, rfl⟩
      go_wp2_with fail
      refine (known_any _).mono ?_
      rintro e w1 ⟨rfl, hb⟩
      replace H0 := H0.trans (hb.mono H0.size)
      clear hb
      go_wp2_with fail
      go_ret
      exact ⟨rfl, H0⟩
    · have HS := Lib.hid (small2_yes hc0 hc1 h40 h41)
      obtain ⟨dsx, hrx⟩ := HA h40
      have hlx : dsx.length ≤ 40 := by rw [← hrx.cap.1]; exact h40
      obtain ⟨x, hx⟩ : ∃ z, val dsx = z := ⟨_, rfl⟩
      have fa : RV V (.slice A n c) x 40 := ⟨dsx, hrx.below H0, hx, hlx⟩
      clear hx hrx hlx
      obtain ⟨dsy, hry⟩ := HB h41
      have hly : dsy.length ≤ 40 := by rw [← hry.cap.1]; exact h41
      obtain ⟨y, hy⟩ : ∃ z, val dsy = z := ⟨_, rfl⟩
      have fb : RV V (.slice A' n' c') y 40 := ⟨dsy, hry.below H0, hy, hly⟩
      clear hy hry hly
      clear HA HB h40 h41 hc0 hc1
      rcases Nat.eq_zero_or_pos y with rfl | hy
      · obtain ⟨r, hr, hr0⟩ : ∃ r : Int, cmpI x 0 = r ∧ 0 ≤ r := by
          rcases Nat.eq_zero_or_pos x with h1 | h1
          · exact ⟨0, cmpI_eq (by omega), by omega⟩
          · exact ⟨1, cmpI_gt h1, by omega⟩
        have hrd : decide ((0 : Int) ≤ r) = true := decide_eq_true hr0
        have HCV := Lib.hid hr
        have HLE := Lib.hid (Nat.zero_le x)
        clear hr hr0
        go_enter Tryd.func3, Tryd.ntmps3
        go_wp2_with fail
        refine HS.out.mono ?_
        rintro e w0 ⟨rfl, rfl⟩
        clear HS hV
        go_wp2_with fail
        refine (n_v fa).mono ?_
        rintro e w1 ⟨B1a, k1a, d1a, rfl, fx, hb⟩
        replace fa := fa.below hb
        replace fb := fb.below hb
        replace H0 := H0.trans (hb.mono H0.size)
        clear hb
        go_wp2_with fail
        refine (n_v fb).mono ?_
        rintro e w2 ⟨B2a, k2a, d2a, rfl, fy, hb⟩
        replace fa := fa.below hb
        replace fb := fb.below hb
        replace fx := fx.below hb
        replace H0 := H0.trans (hb.mono H0.size)
        clear hb
        have hk0 : k2a = 0 := by have h := (Raw.cap fy.1).1; rw [digs_zero] at h; exact h
        subst hk0
        go_wp2_with fail
        refine (sub_v fa fb HLE.out).mono ?_
        rintro e w3 ⟨B3a, k3a, d3a, rfl, fd, hb⟩
        replace fa := fa.below hb
        replace fb := fb.below hb
        replace fx := fx.below hb
        replace fy := fy.below hb
        replace H0 := H0.trans (hb.mono H0.size)
        clear hb
        go_wp2_with fail
        refine (divmod0_v fa fb).mono ?_
        rintro e w4 ⟨rfl, hb⟩
        replace fa := fa.below hb
        replace fb := fb.below hb
        replace fx := fx.below hb
        replace fy := fy.below hb
        replace fd := fd.below hb
        replace H0 := H0.trans (hb.mono H0.size)
        clear hb
        go_wp2_with fail
        refine (ncmp_v fx fy HCV.out).mono ?_
        rintro e w5 ⟨rfl, hb⟩
        replace fa := fa.below hb
        replace fb := fb.below hb
        replace fx := fx.below hb
        replace fy := fy.below hb
        replace fd := fd.below hb
        replace H0 := H0.trans (hb.mono H0.size)
        clear hb
        go_wp2_with fail
        refine (cmp_at fa fb HCV.out).mono ?_
        rintro e w6 ⟨rfl, hb⟩
        replace fa := fa.below hb
        replace fb := fb.below hb
        replace fx := fx.below hb
        replace fy := fy.below hb
        replace fd := fd.below hb
        replace H0 := H0.trans (hb.mono H0.size)
        clear hb
        go_wp2_with fail
        refine (add_v fa fb (by omega) (by omega)).mono ?_
        rintro e w7 ⟨B7a, k7a, d7a, rfl, f1, hb⟩
        replace fa := fa.below hb
        replace fb := fb.below hb
        replace fx := fx.below hb
        replace fy := fy.below hb
        replace fd := fd.below hb
        replace H0 := H0.trans (hb.mono H0.size)
        clear hb
        go_wp2_with fail
        refine (nsum_v fx fy (by omega) (by omega)).mono ?_
        rintro e w8 ⟨B8a, k8a, d8a, rfl, f2, hb⟩
        replace fa := fa.below hb
        replace fb := fb.below hb
        replace fx := fx.below hb
        replace fy := fy.below hb
        replace fd := fd.below hb
        replace f1 := f1.below hb
        replace H0 := H0.trans (hb.mono H0.size)
        clear hb
        go_wp2_with fail
        refine (samelaw_v f1 f2 rfl (by omega)).mono ?_
        rintro e w9 ⟨rfl, hb⟩
        replace fa := fa.below hb
        replace fb := fb.below hb
        replace fx := fx.below hb
        replace fy := fy.below hb
        replace fd := fd.below hb
        replace f1 := f1.below hb
        replace f2 := f2.below hb
        replace H0 := H0.trans (hb.mono H0.size)
        clear hb
        clear f1 f2
        go_wp2_with fail
        refine (mul_v fa fb (by omega) (by omega)).mono ?_
        rintro e w10 ⟨B10a, k10a, d10a, rfl, f1, hb⟩
        replace fa := fa.below hb
        replace fb := fb.below hb
        replace fx := fx.below hb
        replace fy := fy.below hb
        replace fd := fd.below hb
        replace H0 := H0.trans (hb.mono H0.size)
        clear hb
        go_wp2_with fail
        refine (nprod_v fx fy (by omega) (by omega)).mono ?_
        rintro e w11 ⟨B11a, k11a, d11a, rfl, f2, hb⟩
        replace fa := fa.below hb
        replace fb := fb.below hb
        replace fx := fx.below hb
        replace fy := fy.below hb
        replace fd := fd.below hb
        replace f1 := f1.below hb
        replace H0 := H0.trans (hb.mono H0.size)
        clear hb
        go_wp2_with fail
        refine (samelaw_v f1 f2 rfl (by omega)).mono ?_
        rintro e w12 ⟨rfl, hb⟩
        replace fa := fa.below hb
        replace fb := fb.below hb
        replace fx := fx.below hb
        replace fy := fy.below hb
        replace fd := fd.below hb
        replace f1 := f1.below hb
        replace f2 := f2.below hb
        replace H0 := H0.trans (hb.mono H0.size)
        clear hb
        clear f1 f2
        go_wp2_with fail
        refine (nless_v fx fy HLE.out (by omega)).mono ?_
        rintro e w13 ⟨B13a, k13a, d13a, rfl, f2, hb⟩
        replace fa := fa.below hb
        replace fb := fb.below hb
        replace fx := fx.below hb
        replace fy := fy.below hb
        replace fd := fd.below hb
        replace H0 := H0.trans (hb.mono H0.size)
        clear hb
        go_wp2_with fail
        refine (samelaw_v fd f2 rfl (by omega)).mono ?_
        rintro e w14 ⟨rfl, hb⟩
        replace fa := fa.below hb
        replace fb := fb.below hb
        replace fx := fx.below hb
        replace fy := fy.below hb
        replace fd := fd.below hb
        replace f2 := f2.below hb
        replace H0 := H0.trans (hb.mono H0.size)
        clear hb
        clear f2
        go_wp2_with fail
        refine (known_any _).mono ?_
        rintro e w15 ⟨rfl, hb⟩
        replace fa := fa.below hb
        replace fb := fb.below hb
        replace fx := fx.below hb
        replace fy := fy.below hb
        replace fd := fd.below hb
        replace H0 := H0.trans (hb.mono H0.size)
        clear hb
        go_wp2_with fail
        go_ret
        exact ⟨rfl, H0⟩
      · rcases Nat.lt_or_ge x y with hlt | hle
        · have HY := Lib.hid hy
          have HLT := Lib.hid hlt
          have HCV := Lib.hid (cmpI_lt hlt)
          clear hy hlt
          go_enter Tryd.func3, Tryd.ntmps3
          go_wp2_with fail
          refine HS.out.mono ?_
          rintro e w0 ⟨rfl, rfl⟩
          clear HS hV
          go_wp2_with fail
          refine (n_v fa).mono ?_
          rintro e w1 ⟨B1a, k1a, d1a, rfl, fx, hb⟩
          replace fa := fa.below hb
          replace fb := fb.below hb
          replace H0 := H0.trans (hb.mono H0.size)
          clear hb
          go_wp2_with fail
          refine (n_v fb).mono ?_
          rintro e w2 ⟨B2a, k2a, d2a, rfl, fy, hb⟩
          replace fa := fa.below hb
          replace fb := fb.below hb
          replace fx := fx.below hb
          replace H0 := H0.trans (hb.mono H0.size)
          clear hb
          have hkp : 0 < k2a := by rw [(Raw.cap fy.1).1]; exact digs_length_pos HY.out
          have hkd : decide ((0 : Int) < (k2a : Int)) = true := decide_eq_true (by omega)
          go_wp2_with fail
          refine (subno_v fa fb HLT.out).mono ?_
          rintro e w3 ⟨rfl, hb⟩
          replace fa := fa.below hb
          replace fb := fb.below hb
          replace fx := fx.below hb
          replace fy := fy.below hb
          replace H0 := H0.trans (hb.mono H0.size)
          clear hb
          go_wp2_with fail
          refine (divmod_v fa fb HY.out (by omega)).mono ?_
          rintro e w4 ⟨B4a, k4a, d4a, B4b, k4b, d4b, rfl, fq, fr, hb⟩
          replace fa := fa.below hb
          replace fb := fb.below hb
          replace fx := fx.below hb
          replace fy := fy.below hb
          replace H0 := H0.trans (hb.mono H0.size)
          clear hb
          go_wp2_with fail
          refine (ncmp_v fx fy HCV.out).mono ?_
          rintro e w5 ⟨rfl, hb⟩
          replace fa := fa.below hb
          replace fb := fb.below hb
          replace fx := fx.below hb
          replace fy := fy.below hb
          replace fq := fq.below hb
          replace fr := fr.below hb
          replace H0 := H0.trans (hb.mono H0.size)
          clear hb
          go_wp2_with fail
          refine (cmp_at fa fb HCV.out).mono ?_
          rintro e w6 ⟨rfl, hb⟩
          replace fa := fa.below hb
          replace fb := fb.below hb
          replace fx := fx.below hb
          replace fy := fy.below hb
          replace fq := fq.below hb
          replace fr := fr.below hb
          replace H0 := H0.trans (hb.mono H0.size)
          clear hb
          go_wp2_with fail
          refine (add_v fa fb (by omega) (by omega)).mono ?_
          rintro e w7 ⟨B7a, k7a, d7a, rfl, f1, hb⟩
          replace fa := fa.below hb
          replace fb := fb.below hb
          replace fx := fx.below hb
          replace fy := fy.below hb
          replace fq := fq.below hb
          replace fr := fr.below hb
          replace H0 := H0.trans (hb.mono H0.size)
          clear hb
          go_wp2_with fail
          refine (nsum_v fx fy (by omega) (by omega)).mono ?_
          rintro e w8 ⟨B8a, k8a, d8a, rfl, f2, hb⟩
          replace fa := fa.below hb
          replace fb := fb.below hb
          replace fx := fx.below hb
          replace fy := fy.below hb
          replace fq := fq.below hb
          replace fr := fr.below hb
          replace f1 := f1.below hb
          replace H0 := H0.trans (hb.mono H0.size)
          clear hb
          go_wp2_with fail
          refine (samelaw_v f1 f2 rfl (by omega)).mono ?_
          rintro e w9 ⟨rfl, hb⟩
          replace fa := fa.below hb
          replace fb := fb.below hb
          replace fx := fx.below hb
          replace fy := fy.below hb
          replace fq := fq.below hb
          replace fr := fr.below hb
          replace f1 := f1.below hb
          replace f2 := f2.below hb
          replace H0 := H0.trans (hb.mono H0.size)
          clear hb
          clear f1 f2
          go_wp2_with fail
          refine (mul_v fa fb (by omega) (by omega)).mono ?_
          rintro e w10 ⟨B10a, k10a, d10a, rfl, f1, hb⟩
          replace fa := fa.below hb
          replace fb := fb.below hb
          replace fx := fx.below hb
          replace fy := fy.below hb
          replace fq := fq.below hb
          replace fr := fr.below hb
          replace H0 := H0.trans (hb.mono H0.size)
          clear hb
          go_wp2_with fail
          refine (nprod_v fx fy (by omega) (by omega)).mono ?_
          rintro e w11 ⟨B11a, k11a, d11a, rfl, f2, hb⟩
          replace fa := fa.below hb
          replace fb := fb.below hb
          replace fx := fx.below hb
          replace fy := fy.below hb
          replace fq := fq.below hb
          replace fr := fr.below hb
          replace f1 := f1.below hb
          replace H0 := H0.trans (hb.mono H0.size)
          clear hb
          go_wp2_with fail
          refine (samelaw_v f1 f2 rfl (by omega)).mono ?_
          rintro e w12 ⟨rfl, hb⟩
          replace fa := fa.below hb
          replace fb := fb.below hb
          replace fx := fx.below hb
          replace fy := fy.below hb
          replace fq := fq.below hb
          replace fr := fr.below hb
          replace f1 := f1.below hb
          replace f2 := f2.below hb
          replace H0 := H0.trans (hb.mono H0.size)
          clear hb
          clear f1 f2
          go_wp2_with fail
          refine (ndivide_v fx fy HY.out (by omega)).mono ?_
          rintro e w13 ⟨B13a, k13a, d13a, B13b, k13b, d13b, rfl, fu, fv, hb⟩
          replace fa := fa.below hb
          replace fb := fb.below hb
          replace fx := fx.below hb
          replace fy := fy.below hb
          replace fq := fq.below hb
          replace fr := fr.below hb
          replace H0 := H0.trans (hb.mono H0.size)
          clear hb
          go_wp2_with fail
          refine (known_any _).mono ?_
          rintro e w14 ⟨rfl, hb⟩
          replace fa := fa.below hb
          replace fb := fb.below hb
          replace fx := fx.below hb
          replace fy := fy.below hb
          replace fq := fq.below hb
          replace fr := fr.below hb
          replace fu := fu.below hb
          replace fv := fv.below hb
          replace H0 := H0.trans (hb.mono H0.size)
          clear hb
          go_wp2_with fail
          refine (samelaw_v fq fu rfl (by omega)).mono ?_
          rintro e w15 ⟨rfl, hb⟩
          replace fa := fa.below hb
          replace fb := fb.below hb
          replace fx := fx.below hb
          replace fy := fy.below hb
          replace fq := fq.below hb
          replace fr := fr.below hb
          replace fu := fu.below hb
          replace fv := fv.below hb
          replace H0 := H0.trans (hb.mono H0.size)
          clear hb
          go_wp2_with fail
          refine (samelaw_v fr fv rfl (by omega)).mono ?_
          rintro e w16 ⟨rfl, hb⟩
          replace fa := fa.below hb
          replace fb := fb.below hb
          replace fx := fx.below hb
          replace fy := fy.below hb
          replace fq := fq.below hb
          replace fr := fr.below hb
          replace fu := fu.below hb
          replace fv := fv.below hb
          replace H0 := H0.trans (hb.mono H0.size)
          clear hb
          go_wp2_with fail
          go_ret
          exact ⟨rfl, H0⟩
        · obtain ⟨r, hr, hr0⟩ : ∃ r : Int, cmpI x y = r ∧ 0 ≤ r := by
            rcases Nat.lt_or_ge y x with h1 | h1
            · exact ⟨1, cmpI_gt h1, by omega⟩
            · exact ⟨0, cmpI_eq (by omega), by omega⟩
          have hrd : decide ((0 : Int) ≤ r) = true := decide_eq_true hr0
          have HCV := Lib.hid hr
          have HLE := Lib.hid hle
          have HY := Lib.hid hy
          clear hr hr0 hy hle
          go_enter Tryd.func3, Tryd.ntmps3
          go_wp2_with fail
          refine HS.out.mono ?_
          rintro e w0 ⟨rfl, rfl⟩
          clear HS hV
          go_wp2_with fail
          refine (n_v fa).mono ?_
          rintro e w1 ⟨B1a, k1a, d1a, rfl, fx, hb⟩
          replace fa := fa.below hb
          replace fb := fb.below hb
          replace H0 := H0.trans (hb.mono H0.size)
          clear hb
          go_wp2_with fail
          refine (n_v fb).mono ?_
          rintro e w2 ⟨B2a, k2a, d2a, rfl, fy, hb⟩
          replace fa := fa.below hb
          replace fb := fb.below hb
          replace fx := fx.below hb
          replace H0 := H0.trans (hb.mono H0.size)
          clear hb
          have hkp : 0 < k2a := by rw [(Raw.cap fy.1).1]; exact digs_length_pos HY.out
          have hkd : decide ((0 : Int) < (k2a : Int)) = true := decide_eq_true (by omega)
          go_wp2_with fail
          refine (sub_v fa fb HLE.out).mono ?_
          rintro e w3 ⟨B3a, k3a, d3a, rfl, fd, hb⟩
          replace fa := fa.below hb
          replace fb := fb.below hb
          replace fx := fx.below hb
          replace fy := fy.below hb
          replace H0 := H0.trans (hb.mono H0.size)
          clear hb
          go_wp2_with fail
          refine (divmod_v fa fb HY.out (by omega)).mono ?_
          rintro e w4 ⟨B4a, k4a, d4a, B4b, k4b, d4b, rfl, fq, fr, hb⟩
          replace fa := fa.below hb
          replace fb := fb.below hb
          replace fx := fx.below hb
          replace fy := fy.below hb
          replace fd := fd.below hb
          replace H0 := H0.trans (hb.mono H0.size)
          clear hb
          go_wp2_with fail
          refine (ncmp_v fx fy HCV.out).mono ?_
          rintro e w5 ⟨rfl, hb⟩
          replace fa := fa.below hb
          replace fb := fb.below hb
          replace fx := fx.below hb
          replace fy := fy.below hb
          replace fd := fd.below hb
          replace fq := fq.below hb
          replace fr := fr.below hb
          replace H0 := H0.trans (hb.mono H0.size)
          clear hb
          go_wp2_with fail
          refine (cmp_at fa fb HCV.out).mono ?_
          rintro e w6 ⟨rfl, hb⟩
          replace fa := fa.below hb
          replace fb := fb.below hb
          replace fx := fx.below hb
          replace fy := fy.below hb
          replace fd := fd.below hb
          replace fq := fq.below hb
          replace fr := fr.below hb
          replace H0 := H0.trans (hb.mono H0.size)
          clear hb
          go_wp2_with fail
          refine (add_v fa fb (by omega) (by omega)).mono ?_
          rintro e w7 ⟨B7a, k7a, d7a, rfl, f1, hb⟩
          replace fa := fa.below hb
          replace fb := fb.below hb
          replace fx := fx.below hb
          replace fy := fy.below hb
          replace fd := fd.below hb
          replace fq := fq.below hb
          replace fr := fr.below hb
          replace H0 := H0.trans (hb.mono H0.size)
          clear hb
          go_wp2_with fail
          refine (nsum_v fx fy (by omega) (by omega)).mono ?_
          rintro e w8 ⟨B8a, k8a, d8a, rfl, f2, hb⟩
          replace fa := fa.below hb
          replace fb := fb.below hb
          replace fx := fx.below hb
          replace fy := fy.below hb
          replace fd := fd.below hb
          replace fq := fq.below hb
          replace fr := fr.below hb
          replace f1 := f1.below hb
          replace H0 := H0.trans (hb.mono H0.size)
          clear hb
          go_wp2_with fail
          refine (samelaw_v f1 f2 rfl (by omega)).mono ?_
          rintro e w9 ⟨rfl, hb⟩
          replace fa := fa.below hb
          replace fb := fb.below hb
          replace fx := fx.below hb
          replace fy := fy.below hb
          replace fd := fd.below hb
          replace fq := fq.below hb
          replace fr := fr.below hb
          replace f1 := f1.below hb
          replace f2 := f2.below hb
          replace H0 := H0.trans (hb.mono H0.size)
          clear hb
          clear f1 f2
          go_wp2_with fail
          refine (mul_v fa fb (by omega) (by omega)).mono ?_
          rintro e w10 ⟨B10a, k10a, d10a, rfl, f1, hb⟩
          replace fa := fa.below hb
          replace fb := fb.below hb
          replace fx := fx.below hb
          replace fy := fy.below hb
          replace fd := fd.below hb
          replace fq := fq.below hb
          replace fr := fr.below hb
          replace H0 := H0.trans (hb.mono H0.size)
          clear hb
          go_wp2_with fail
          refine (nprod_v fx fy (by omega) (by omega)).mono ?_
          rintro e w11 ⟨B11a, k11a, d11a, rfl, f2, hb⟩
          replace fa := fa.below hb
          replace fb := fb.below hb
          replace fx := fx.below hb
          replace fy := fy.below hb
          replace fd := fd.below hb
          replace fq := fq.below hb
          replace fr := fr.below hb
          replace f1 := f1.below hb
          replace H0 := H0.trans (hb.mono H0.size)
          clear hb
          go_wp2_with fail
          refine (samelaw_v f1 f2 rfl (by omega)).mono ?_
          rintro e w12 ⟨rfl, hb⟩
          replace fa := fa.below hb
          replace fb := fb.below hb
          replace fx := fx.below hb
          replace fy := fy.below hb
          replace fd := fd.below hb
          replace fq := fq.below hb
          replace fr := fr.below hb
          replace f1 := f1.below hb
          replace f2 := f2.below hb
          replace H0 := H0.trans (hb.mono H0.size)
          clear hb
          clear f1 f2
          go_wp2_with fail
          refine (nless_v fx fy HLE.out (by omega)).mono ?_
          rintro e w13 ⟨B13a, k13a, d13a, rfl, f2, hb⟩
          replace fa := fa.below hb
          replace fb := fb.below hb
          replace fx := fx.below hb
          replace fy := fy.below hb
          replace fd := fd.below hb
          replace fq := fq.below hb
          replace fr := fr.below hb
          replace H0 := H0.trans (hb.mono H0.size)
          clear hb
          go_wp2_with fail
          refine (samelaw_v fd f2 rfl (by omega)).mono ?_
          rintro e w14 ⟨rfl, hb⟩
          replace fa := fa.below hb
          replace fb := fb.below hb
          replace fx := fx.below hb
          replace fy := fy.below hb
          replace fd := fd.below hb
          replace fq := fq.below hb
          replace fr := fr.below hb
          replace f2 := f2.below hb
          replace H0 := H0.trans (hb.mono H0.size)
          clear hb
          clear f2
          go_wp2_with fail
          refine (ndivide_v fx fy HY.out (by omega)).mono ?_
          rintro e w15 ⟨B15a, k15a, d15a, B15b, k15b, d15b, rfl, fu, fv, hb⟩
          replace fa := fa.below hb
          replace fb := fb.below hb
          replace fx := fx.below hb
          replace fy := fy.below hb
          replace fd := fd.below hb
          replace fq := fq.below hb
          replace fr := fr.below hb
          replace H0 := H0.trans (hb.mono H0.size)
          clear hb
          go_wp2_with fail
          refine (known_any _).mono ?_
          rintro e w16 ⟨rfl, hb⟩
          replace fa := fa.below hb
          replace fb := fb.below hb
          replace fx := fx.below hb
          replace fy := fy.below hb
          replace fd := fd.below hb
          replace fq := fq.below hb
          replace fr := fr.below hb
          replace fu := fu.below hb
          replace fv := fv.below hb
          replace H0 := H0.trans (hb.mono H0.size)
          clear hb
          go_wp2_with fail
          refine (samelaw_v fq fu rfl (by omega)).mono ?_
          rintro e w17 ⟨rfl, hb⟩
          replace fa := fa.below hb
          replace fb := fb.below hb
          replace fx := fx.below hb
          replace fy := fy.below hb
          replace fd := fd.below hb
          replace fq := fq.below hb
          replace fr := fr.below hb
          replace fu := fu.below hb
          replace fv := fv.below hb
          replace H0 := H0.trans (hb.mono H0.size)
          clear hb
          go_wp2_with fail
          refine (samelaw_v fr fv rfl (by omega)).mono ?_
          rintro e w18 ⟨rfl, hb⟩
          replace fa := fa.below hb
          replace fb := fb.below hb
          replace fx := fx.below hb
          replace fy := fy.below hb
          replace fd := fd.below hb
          replace fq := fq.below hb
          replace fr := fr.below hb
          replace fu := fu.below hb
          replace fv := fv.below hb
          replace H0 := H0.trans (hb.mono H0.size)
          clear hb
          go_wp2_with fail
          go_ret
          exact ⟨rfl, H0⟩
end Go.Proofs.YtacfdcfkfjildaaDoor
