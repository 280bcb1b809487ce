/-
  The walk of the law SpanPoints.
-/
import Derived.Test.YtfdlkbbepkghmaaGreatDoorVSq
import Derived.Test.YtfdlkbbepkghmaaGreatDoorVBox
import Derived.Test.YtfdlkbbepkghmaaGreatDoorVDivLong
import Derived.Test.YtfdlkbbepkghmaaGreatDoorVEB
import Derived.Test.YtfdlkbbepkghmaaGreatDoorVFormI
import Derived.Test.YtfdlkbbepkghmaaGreatDoorVK1
import Derived.Test.YtfdlkbbepkghmaaGreatDoorVK2
import Derived.Test.YtfdlkbbepkghmaaGreatDoorVK3
import Derived.Test.YtfdlkbbepkghmaaGreatDoorVK4
import Derived.Test.YtfdlkbbepkghmaaGreatDoorVK5
import Derived.Test.YtfdlkbbepkghmaaGreatDoorVK6
import Derived.Test.YtfdlkbbepkghmaaGreatDoorVK7
import Derived.Test.YtfdlkbbepkghmaaGreatDoorVK8
import Derived.Test.YtfdlkbbepkghmaaGreatDoorVK9
import Derived.Test.YtfdlkbbepkghmaaGreatDoorVN1
import Derived.Test.YtfdlkbbepkghmaaGreatDoorVOrd
import Derived.Test.YtfdlkbbepkghmaaGreatDoorVPP
import Derived.Test.YtfdlkbbepkghmaaGreatDoorVR1
import Derived.Test.YtfdlkbbepkghmaaGreatDoorVRA
import Derived.Test.YtfdlkbbepkghmaaGreatDoorVRatD
import Derived.Test.YtfdlkbbepkghmaaGreatDoorVRatO
import Derived.Test.YtfdlkbbepkghmaaGreatDoorVRatR
import Derived.Test.YtfdlkbbepkghmaaGreatDoorVRatS
import Derived.Test.YtfdlkbbepkghmaaGreatDoorVS1
import Derived.Test.YtfdlkbbepkghmaaGreatDoorVSA
import Derived.Test.YtfdlkbbepkghmaaGreatDoorVSG
import Derived.Test.YtfdlkbbepkghmaaGreatDoorVShelf
import Derived.Test.YtfdlkbbepkghmaaGreatDoorVSpH
import Derived.Test.YtfdlkbbepkghmaaGreatDoorVSpI
import Derived.Test.YtfdlkbbepkghmaaGreatDoorVSpJ
import Derived.Test.YtfdlkbbepkghmaaGreatDoorVSpK
import Derived.Test.YtfdlkbbepkghmaaGreatDoorVSpM
import Derived.Test.YtfdlkbbepkghmaaGreatDoorVSpN
import Derived.Test.YtfdlkbbepkghmaaGreatDoorVSpP
import Derived.Test.YtfdlkbbepkghmaaGreatDoorVSpQ
import Derived.Test.YtfdlkbbepkghmaaGreatDoorVSpR
import Derived.Test.YtfdlkbbepkghmaaGreatDoorVSpS
import Derived.Test.YtfdlkbbepkghmaaGreatDoorVSpT
import Derived.Test.YtfdlkbbepkghmaaGreatDoorVSpU
import Derived.Test.YtfdlkbbepkghmaaGreatDoorVSpV
import Derived.Test.YtfdlkbbepkghmaaGreatDoorVSpW
import Derived.Test.YtfdlkbbepkghmaaGreatDoorVSpW0
import Derived.Test.YtfdlkbbepkghmaaGreatDoorVSpX
import Derived.Test.YtfdlkbbepkghmaaGreatDoorVSpY
import Derived.Test.YtfdlkbbepkghmaaGreatDoorVSpZ
import Derived.Test.YtfdlkbbepkghmaaGreatDoorVTT
import Derived.IntWalk
import Derived.Deep.Cut
namespace Go.Proofs.YtfdlkbbepkghmaaGreatDoor
open Go.RowKit

section
variable {f0 h0 f1 h1 f2 h2 f3 h3 f4 h4 f5 h5 f6 h6 f7 h7 f8 h8 f9 h9 f10 h10 f11 h11 : Bool} {A0 A1 A2 A3 D0 D1 D2 D3 : Option Addr} {n0 n1 n2 n3 c0 c1 c2 c3 m0 m1 m2 m3 e0 e1 e2 e3 : Nat} {s0 s1 s2 s3 : Bool} {q0 q1 q2 q3 q4 q5 q6 q7 : Rat} {z0 z1 z2 z3 z4 z5 z6 z7 z8 z9 z10 z11 : Int} {L L0 L1 x y : Nat} {k : Int} {w : World}
variable {o0 o1 o2 o3 : Option Rat} {l l' : List Sp}
set_option maxRecDepth 100000 in
set_option maxHeartbeats 16000000 in
theorem spanpoints_any {v : Value} (HI : Ints w v) :
    Calls Tryz.prog 5 #[v] w fun e w' => e = .returned (.bool true) ∧ Below w.heap.size w w' := by
  go_enter Tryz.func5, Tryz.ntmps5
  go_wp2_with fail
  refine (new_any HI).mono ?_
  rintro e w1 ⟨rfl, hT, H0, hsz⟩
  have hlt : w.heap.size < w1.heap.size := by omega
  clear hsz HI
  go_wp2_with fail
  refine (smade_v hT hlt).mono ?_
  rintro e w2 ⟨v0_, g0, t0, rfl, h0_, ha0, hl0, hT', hg⟩
  replace hlt := Nat.lt_of_lt_of_le hlt hg.size
  replace H0 := H0.grown hg H0.size (by rintro k hk; injection hk with hk; omega)
  clear hT
  have hT := hT'
  clear hT' hg
  go_wp2_with fail
  refine (writeall_v h0_ (by have := set_len g0 t0; omega) (by decide)).mono ?_
  rintro e w3 ⟨y0_, rfl, s0_, hb⟩
  replace h0_ := h0_.below hb
  replace hT := hT.keep hb hlt
  replace hlt := Nat.lt_of_lt_of_le hlt hb.size
  replace H0 := H0.trans (hb.mono H0.size)
  clear hb
  clear h0_
  have k0 : SetV w3 5 y0_ g0 t0 := ⟨s0_, ha0⟩
  clear s0_ ha0
  go_wp2_with fail
  refine (smade_v hT hlt).mono ?_
  rintro e w4 ⟨v1_, g1, t1, rfl, h1_, ha1, hl1, hT', hg⟩
  replace k0 := k0.tape hT hg
  replace hlt := Nat.lt_of_lt_of_le hlt hg.size
  replace H0 := H0.grown hg H0.size (by rintro k hk; injection hk with hk; omega)
  clear hT
  have hT := hT'
  clear hT' hg
  go_wp2_with fail
  refine (writeall_v h1_ (by have := set_len g1 t1; omega) (by decide)).mono ?_
  rintro e w5 ⟨y1_, rfl, s1_, hb⟩
  replace k0 := k0.below hb
  replace h1_ := h1_.below hb
  replace hT := hT.keep hb hlt
  replace hlt := Nat.lt_of_lt_of_le hlt hb.size
  replace H0 := H0.trans (hb.mono H0.size)
  clear hb
  clear h1_
  have k1 : SetV w5 5 y1_ g1 t1 := ⟨s1_, ha1⟩
  clear s1_ ha1
  go_wp2_with fail
  refine (tq_v hT hlt).mono ?_
  rintro e w6 ⟨q0, s0, A0, n0, c0, D0, m0, e0, rfl, p0, hT', hg⟩
  replace k0 := k0.tape hT hg
  replace k1 := k1.tape hT hg
  replace hlt := Nat.lt_of_lt_of_le hlt hg.size
  replace H0 := H0.grown hg H0.size (by rintro k hk; injection hk with hk; omega)
  clear hT
  have hT := hT'
  clear hT' hg
  go_wp2_with fail
  refine (next_any 7 (by omega) (by omega) hT).mono ?_
  rintro e w7 ⟨r, rfl, hr, hT', hg⟩
  replace k0 := k0.tape hT hg
  replace k1 := k1.tape hT hg
  replace p0 := p0.tape hT hg
  replace hlt := Nat.lt_of_lt_of_le hlt hg.size
  replace H0 := H0.grown hg H0.size (by rintro k hk; injection hk with hk; omega)
  clear hT
  have hT := hT'
  clear hT' hg
  clear hT hlt
  go_wp2_with fail
  refine (npart7_v (r : Int) (by omega) (by omega)).mono ?_
  rintro e w8 ⟨s1, A1, n1, c1, D1, m1, e1, rfl, p1, hb⟩
  replace k0 := k0.below hb
  replace k1 := k1.below hb
  replace p0 := p0.below hb
  replace H0 := H0.trans (hb.mono H0.size)
  clear hb
  go_wp2_with fail
  refine (nplus_v p0 p1 (by decide) (by decide)).mono ?_
  rintro e w9 ⟨s2, A2, n2, c2, D2, m2, e2, rfl, p2, hb⟩
  replace k0 := k0.below hb
  replace k1 := k1.below hb
  replace p0 := p0.below hb
  replace p1 := p1.below hb
  replace H0 := H0.trans (hb.mono H0.size)
  clear hb
  go_wp2_with fail
  clear p0
  clear p1
  refine (toq_v p2 (by decide)).mono ?_
  rintro e w10 ⟨s3, A3, n3, c3, D3, m3, e3, rfl, k9, hb⟩
  replace k0 := k0.below hb
  replace k1 := k1.below hb
  replace p2 := p2.below hb
  replace H0 := H0.trans (hb.mono H0.size)
  clear hb
  clear p2
  generalize hqq : q0 + mkRat (r : Int) 7 = q at k9
  clear hqq hr
  obtain ⟨W11, hW, b6, hbW, hszW11⟩ := boxes1 w10 #[.bool s3, .slice A3 n3 c3, .slice D3 m3 e3] 28
  skip
  skip
  replace k0 := k0.below hbW
  replace k1 := k1.below hbW
  replace k9 := k9.below hbW
  replace H0 := H0.trans (hbW.mono H0.size)
  clear hbW
  obtain ⟨cb60, cb61, cb62⟩ := b6.cells3
  go_wp2_with fail
  clear hW
  clear hszW11
  clear cb60 cb61 cb62
  obtain ⟨ka, hka⟩ : ∃ k, clsL (spansOf g0 t0) q = k := ⟨_, rfl⟩
  obtain ⟨kb, hkb⟩ : ∃ k, clsL (spansOf g1 t1) q = k := ⟨_, rfl⟩
  have HA := Lib.hid hka
  have HB := Lib.hid hkb
  have sa := cls_says (g := g0) k0.2 q
  have sb := cls_says (g := g1) k1.2 q
  rw [hka] at sa
  rw [hkb] at sb
  clear hka hkb
  obtain ⟨cb60, cb61, cb62⟩ := b6.cells3
  clear cb60 cb61 cb62
  obtain ⟨cb60, cb61, cb62⟩ := b6.cells3
  clear cb60 cb61 cb62
  refine (pclass_x HA.out k0 k9.rq (by omega) (by decide) (by decide)).mono ?_
  rintro e w12 ⟨rfl, hb⟩
  replace k0 := k0.below hb
  replace k1 := k1.below hb
  replace k9 := k9.below hb
  replace b6 := b6.below hb
  replace H0 := H0.trans (hb.mono H0.size)
  clear hb
  obtain ⟨cb60, cb61, cb62⟩ := b6.cells3
  go_wp2_with fail
  clear cb60 cb61 cb62
  refine (pclass_x HB.out k1 k9.rq (by omega) (by decide) (by decide)).mono ?_
  rintro e w13 ⟨rfl, hb⟩
  replace k0 := k0.below hb
  replace k1 := k1.below hb
  replace k9 := k9.below hb
  replace b6 := b6.below hb
  replace H0 := H0.trans (hb.mono H0.size)
  clear hb
  obtain ⟨cb60, cb61, cb62⟩ := b6.cells3
  clear cb60 cb61 cb62
  rcases sa with rfl | ⟨rfl, m0, e0_⟩ | ⟨rfl, m0, e0_⟩
  · rcases sb with rfl | ⟨rfl, m1, e1_⟩ | ⟨rfl, m1, e1_⟩
    · go_wp2_with fail
      refine (known6_any _).mono ?_
      rintro e w14 ⟨rfl, hb⟩
      replace k0 := k0.below hb
      replace k1 := k1.below hb
      replace k9 := k9.below hb
      replace b6 := b6.below hb
      replace H0 := H0.trans (hb.mono H0.size)
      clear hb
      go_wp2_with fail
      go_returns
      exact ⟨rfl, H0⟩
    · clear m1 e1_
      go_wp2_with fail
      refine (known6_any _).mono ?_
      rintro e w14 ⟨rfl, hb⟩
      replace k0 := k0.below hb
      replace k1 := k1.below hb
      replace k9 := k9.below hb
      replace b6 := b6.below hb
      replace H0 := H0.trans (hb.mono H0.size)
      clear hb
      go_wp2_with fail
      go_returns
      exact ⟨rfl, H0⟩
    · clear m1 e1_
      go_wp2_with fail
      refine (known6_any _).mono ?_
      rintro e w14 ⟨rfl, hb⟩
      replace k0 := k0.below hb
      replace k1 := k1.below hb
      replace k9 := k9.below hb
      replace b6 := b6.below hb
      replace H0 := H0.trans (hb.mono H0.size)
      clear hb
      go_wp2_with fail
      go_returns
      exact ⟨rfl, H0⟩
  · rcases sb with rfl | ⟨rfl, m1, e1_⟩ | ⟨rfl, m1, e1_⟩
    · clear m0 e0_
      go_wp2_with fail
      refine (known6_any _).mono ?_
      rintro e w14 ⟨rfl, hb⟩
      replace k0 := k0.below hb
      replace k1 := k1.below hb
      replace k9 := k9.below hb
      replace b6 := b6.below hb
      replace H0 := H0.trans (hb.mono H0.size)
      clear hb
      go_wp2_with fail
      go_returns
      exact ⟨rfl, H0⟩
    · go_wp2_with fail
      refine (sunion_v k0 (by omega) k1 (by omega) (by decide) (by decide)).mono ?_
      rintro e w14 ⟨v_u, rfl, ⟨t_u, k_u, m_u, l_u, e_u⟩, hb⟩
      replace k0 := k0.below hb
      replace k1 := k1.below hb
      replace k9 := k9.below hb
      replace b6 := b6.below hb
      replace H0 := H0.trans (hb.mono H0.size)
      clear hb
      have E_u := Lib.hid e_u
      clear e_u
      try simp only [List.length_nil, Nat.add_zero] at l_u
      go_wp2_with fail
      refine (sinter_v k0 (by omega) k1 (by omega) (by decide) (by decide)).mono ?_
      rintro e w15 ⟨v_i, rfl, ⟨t_i, k_i, m_i, l_i, e_i⟩, hb⟩
      replace k0 := k0.below hb
      replace k1 := k1.below hb
      replace k9 := k9.below hb
      replace k_u := k_u.below hb
      replace b6 := b6.below hb
      replace H0 := H0.trans (hb.mono H0.size)
      clear hb
      have E_i := Lib.hid e_i
      clear e_i
      try simp only [List.length_nil, Nat.add_zero] at l_i
      go_wp2_with fail
      refine (ssub_v k0 (by omega) k1 (by omega) (by decide) (by decide)).mono ?_
      rintro e w16 ⟨v_d, rfl, ⟨t_d, k_d, m_d, l_d, e_d⟩, hb⟩
      replace k0 := k0.below hb
      replace k1 := k1.below hb
      replace k9 := k9.below hb
      replace k_u := k_u.below hb
      replace k_i := k_i.below hb
      replace b6 := b6.below hb
      replace H0 := H0.trans (hb.mono H0.size)
      clear hb
      have E_d := Lib.hid e_d
      clear e_d
      try simp only [List.length_nil, Nat.add_zero] at l_d
      go_wp2_with fail
      refine (scompl_v k0 (by omega) (by decide) (by decide)).mono ?_
      rintro e w17 ⟨v_c, rfl, ⟨t_c, k_c, m_c, l_c, e_c⟩, hb⟩
      replace k0 := k0.below hb
      replace k1 := k1.below hb
      replace k9 := k9.below hb
      replace k_u := k_u.below hb
      replace k_i := k_i.below hb
      replace k_d := k_d.below hb
      replace b6 := b6.below hb
      replace H0 := H0.trans (hb.mono H0.size)
      clear hb
      have E_c := Lib.hid e_c
      clear e_c
      try simp only [List.length_nil, Nat.add_zero] at l_c
      have HM_u : Hid (clsL (spansOf (g0 || g1) t_u) q = 2) := Lib.hid (by rw [cls_set k_u.2 (fun hm => (m_u q hm).elim m0 m1), E_u.out q m0 m1]; simp only [e0_, e1_]; rfl)
      have HM_i : Hid (clsL (spansOf (g0 && g1) t_i) q = 2) := Lib.hid (by rw [cls_set k_i.2 (fun hm => (m_i q hm).elim m0 m1), E_i.out q m0 m1]; simp only [e0_, e1_]; rfl)
      have HM_d : Hid (clsL (spansOf (g0 && !g1) t_d) q = 0) := Lib.hid (by rw [cls_set k_d.2 (fun hm => (m_d q hm).elim m0 m1), E_d.out q m0 m1]; simp only [evT_not, e0_, e1_]; rfl)
      have HM_c : Hid (clsL (spansOf (!g0 || false) t_c) q = 0) := Lib.hid (by rw [cls_set k_c.2 (fun hm => (m_c q hm).elim m0 (fun h => (by cases h))), E_c.out q m0 (fun h => (by cases h))]; simp only [evT_not, evT_nil, e0_]; rfl)
      clear m0 m1 e0_ e1_ m_u E_u m_i E_i m_d E_d m_c E_c
      obtain ⟨cb60, cb61, cb62⟩ := b6.cells3
      go_wp2_with fail
      clear cb60 cb61 cb62
      refine (pclass_x HM_u.out k_u k9.rq (by omega) (by decide) (by decide)).mono ?_
      rintro e w18 ⟨rfl, hb⟩
      replace k0 := k0.below hb
      replace k1 := k1.below hb
      replace k9 := k9.below hb
      replace k_u := k_u.below hb
      replace k_i := k_i.below hb
      replace k_d := k_d.below hb
      replace k_c := k_c.below hb
      replace b6 := b6.below hb
      replace H0 := H0.trans (hb.mono H0.size)
      clear hb
      obtain ⟨cb60, cb61, cb62⟩ := b6.cells3
      clear cb60 cb61 cb62
      obtain ⟨cb60, cb61, cb62⟩ := b6.cells3
      go_wp2_with fail
      clear cb60 cb61 cb62
      refine (pclass_x HM_i.out k_i k9.rq (by omega) (by decide) (by decide)).mono ?_
      rintro e w19 ⟨rfl, hb⟩
      replace k0 := k0.below hb
      replace k1 := k1.below hb
      replace k9 := k9.below hb
      replace k_u := k_u.below hb
      replace k_i := k_i.below hb
      replace k_d := k_d.below hb
      replace k_c := k_c.below hb
      replace b6 := b6.below hb
      replace H0 := H0.trans (hb.mono H0.size)
      clear hb
      obtain ⟨cb60, cb61, cb62⟩ := b6.cells3
      clear cb60 cb61 cb62
      obtain ⟨cb60, cb61, cb62⟩ := b6.cells3
      go_wp2_with fail
      clear cb60 cb61 cb62
      refine (pclass_x HM_d.out k_d k9.rq (by omega) (by decide) (by decide)).mono ?_
      rintro e w20 ⟨rfl, hb⟩
      replace k0 := k0.below hb
      replace k1 := k1.below hb
      replace k9 := k9.below hb
      replace k_u := k_u.below hb
      replace k_i := k_i.below hb
      replace k_d := k_d.below hb
      replace k_c := k_c.below hb
      replace b6 := b6.below hb
      replace H0 := H0.trans (hb.mono H0.size)
      clear hb
      obtain ⟨cb60, cb61, cb62⟩ := b6.cells3
      clear cb60 cb61 cb62
      obtain ⟨cb60, cb61, cb62⟩ := b6.cells3
      go_wp2_with fail
      clear cb60 cb61 cb62
      refine (pclass_x HM_c.out k_c k9.rq (by omega) (by decide) (by decide)).mono ?_
      rintro e w21 ⟨rfl, hb⟩
      replace k0 := k0.below hb
      replace k1 := k1.below hb
      replace k9 := k9.below hb
      replace k_u := k_u.below hb
      replace k_i := k_i.below hb
      replace k_d := k_d.below hb
      replace k_c := k_c.below hb
      replace b6 := b6.below hb
      replace H0 := H0.trans (hb.mono H0.size)
      clear hb
      obtain ⟨cb60, cb61, cb62⟩ := b6.cells3
      clear cb60 cb61 cb62
      go_wp2_with fail
      refine (known6_any _).mono ?_
      rintro e w22 ⟨rfl, hb⟩
      replace k0 := k0.below hb
      replace k1 := k1.below hb
      replace k9 := k9.below hb
      replace k_u := k_u.below hb
      replace k_i := k_i.below hb
      replace k_d := k_d.below hb
      replace k_c := k_c.below hb
      replace b6 := b6.below hb
      replace H0 := H0.trans (hb.mono H0.size)
      clear hb
      go_wp2_with fail
      refine (lclass_t _).mono ?_
      rintro e w23 ⟨rfl, hb⟩
      replace k0 := k0.below hb
      replace k1 := k1.below hb
      replace k9 := k9.below hb
      replace k_u := k_u.below hb
      replace k_i := k_i.below hb
      replace k_d := k_d.below hb
      replace k_c := k_c.below hb
      replace b6 := b6.below hb
      replace H0 := H0.trans (hb.mono H0.size)
      clear hb
      go_wp2_with fail
      refine (lclass_t _).mono ?_
      rintro e w24 ⟨rfl, hb⟩
      replace k0 := k0.below hb
      replace k1 := k1.below hb
      replace k9 := k9.below hb
      replace k_u := k_u.below hb
      replace k_i := k_i.below hb
      replace k_d := k_d.below hb
      replace k_c := k_c.below hb
      replace b6 := b6.below hb
      replace H0 := H0.trans (hb.mono H0.size)
      clear hb
      go_wp2_with fail
      refine (lclass_f _).mono ?_
      rintro e w25 ⟨rfl, hb⟩
      replace k0 := k0.below hb
      replace k1 := k1.below hb
      replace k9 := k9.below hb
      replace k_u := k_u.below hb
      replace k_i := k_i.below hb
      replace k_d := k_d.below hb
      replace k_c := k_c.below hb
      replace b6 := b6.below hb
      replace H0 := H0.trans (hb.mono H0.size)
      clear hb
      go_wp2_with fail
      refine (lclass_f _).mono ?_
      rintro e w26 ⟨rfl, hb⟩
      replace k0 := k0.below hb
      replace k1 := k1.below hb
      replace k9 := k9.below hb
      replace k_u := k_u.below hb
      replace k_i := k_i.below hb
      replace k_d := k_d.below hb
      replace k_c := k_c.below hb
      replace b6 := b6.below hb
      replace H0 := H0.trans (hb.mono H0.size)
      clear hb
      go_wp2_with fail
      go_returns
      exact ⟨rfl, H0⟩
    · go_wp2_with fail
      refine (sunion_v k0 (by omega) k1 (by omega) (by decide) (by decide)).mono ?_
      rintro e w14 ⟨v_u, rfl, ⟨t_u, k_u, m_u, l_u, e_u⟩, hb⟩
      replace k0 := k0.below hb
      replace k1 := k1.below hb
      replace k9 := k9.below hb
      replace b6 := b6.below hb
      replace H0 := H0.trans (hb.mono H0.size)
      clear hb
      have E_u := Lib.hid e_u
      clear e_u
      try simp only [List.length_nil, Nat.add_zero] at l_u
      go_wp2_with fail
      refine (sinter_v k0 (by omega) k1 (by omega) (by decide) (by decide)).mono ?_
      rintro e w15 ⟨v_i, rfl, ⟨t_i, k_i, m_i, l_i, e_i⟩, hb⟩
      replace k0 := k0.below hb
      replace k1 := k1.below hb
      replace k9 := k9.below hb
      replace k_u := k_u.below hb
      replace b6 := b6.below hb
      replace H0 := H0.trans (hb.mono H0.size)
      clear hb
      have E_i := Lib.hid e_i
      clear e_i
      try simp only [List.length_nil, Nat.add_zero] at l_i
      go_wp2_with fail
      refine (ssub_v k0 (by omega) k1 (by omega) (by decide) (by decide)).mono ?_
      rintro e w16 ⟨v_d, rfl, ⟨t_d, k_d, m_d, l_d, e_d⟩, hb⟩
      replace k0 := k0.below hb
      replace k1 := k1.below hb
      replace k9 := k9.below hb
      replace k_u := k_u.below hb
      replace k_i := k_i.below hb
      replace b6 := b6.below hb
      replace H0 := H0.trans (hb.mono H0.size)
      clear hb
      have E_d := Lib.hid e_d
      clear e_d
      try simp only [List.length_nil, Nat.add_zero] at l_d
      go_wp2_with fail
      refine (scompl_v k0 (by omega) (by decide) (by decide)).mono ?_
      rintro e w17 ⟨v_c, rfl, ⟨t_c, k_c, m_c, l_c, e_c⟩, hb⟩
      replace k0 := k0.below hb
      replace k1 := k1.below hb
      replace k9 := k9.below hb
      replace k_u := k_u.below hb
      replace k_i := k_i.below hb
      replace k_d := k_d.below hb
      replace b6 := b6.below hb
      replace H0 := H0.trans (hb.mono H0.size)
      clear hb
      have E_c := Lib.hid e_c
      clear e_c
      try simp only [List.length_nil, Nat.add_zero] at l_c
      have HM_u : Hid (clsL (spansOf (g0 || g1) t_u) q = 2) := Lib.hid (by rw [cls_set k_u.2 (fun hm => (m_u q hm).elim m0 m1), E_u.out q m0 m1]; simp only [e0_, e1_]; rfl)
      have HM_i : Hid (clsL (spansOf (g0 && g1) t_i) q = 0) := Lib.hid (by rw [cls_set k_i.2 (fun hm => (m_i q hm).elim m0 m1), E_i.out q m0 m1]; simp only [e0_, e1_]; rfl)
      have HM_d : Hid (clsL (spansOf (g0 && !g1) t_d) q = 2) := Lib.hid (by rw [cls_set k_d.2 (fun hm => (m_d q hm).elim m0 m1), E_d.out q m0 m1]; simp only [evT_not, e0_, e1_]; rfl)
      have HM_c : Hid (clsL (spansOf (!g0 || false) t_c) q = 0) := Lib.hid (by rw [cls_set k_c.2 (fun hm => (m_c q hm).elim m0 (fun h => (by cases h))), E_c.out q m0 (fun h => (by cases h))]; simp only [evT_not, evT_nil, e0_]; rfl)
      clear m0 m1 e0_ e1_ m_u E_u m_i E_i m_d E_d m_c E_c
      obtain ⟨cb60, cb61, cb62⟩ := b6.cells3
      go_wp2_with fail
      clear cb60 cb61 cb62
      refine (pclass_x HM_u.out k_u k9.rq (by omega) (by decide) (by decide)).mono ?_
      rintro e w18 ⟨rfl, hb⟩
      replace k0 := k0.below hb
      replace k1 := k1.below hb
      replace k9 := k9.below hb
      replace k_u := k_u.below hb
      replace k_i := k_i.below hb
      replace k_d := k_d.below hb
      replace k_c := k_c.below hb
      replace b6 := b6.below hb
      replace H0 := H0.trans (hb.mono H0.size)
      clear hb
      obtain ⟨cb60, cb61, cb62⟩ := b6.cells3
      clear cb60 cb61 cb62
      obtain ⟨cb60, cb61, cb62⟩ := b6.cells3
      go_wp2_with fail
      clear cb60 cb61 cb62
      refine (pclass_x HM_i.out k_i k9.rq (by omega) (by decide) (by decide)).mono ?_
      rintro e w19 ⟨rfl, hb⟩
      replace k0 := k0.below hb
      replace k1 := k1.below hb
      replace k9 := k9.below hb
      replace k_u := k_u.below hb
      replace k_i := k_i.below hb
      replace k_d := k_d.below hb
      replace k_c := k_c.below hb
      replace b6 := b6.below hb
      replace H0 := H0.trans (hb.mono H0.size)
      clear hb
      obtain ⟨cb60, cb61, cb62⟩ := b6.cells3
      clear cb60 cb61 cb62
      obtain ⟨cb60, cb61, cb62⟩ := b6.cells3
      go_wp2_with fail
      clear cb60 cb61 cb62
      refine (pclass_x HM_d.out k_d k9.rq (by omega) (by decide) (by decide)).mono ?_
      rintro e w20 ⟨rfl, hb⟩
      replace k0 := k0.below hb
      replace k1 := k1.below hb
      replace k9 := k9.below hb
      replace k_u := k_u.below hb
      replace k_i := k_i.below hb
      replace k_d := k_d.below hb
      replace k_c := k_c.below hb
      replace b6 := b6.below hb
      replace H0 := H0.trans (hb.mono H0.size)
      clear hb
      obtain ⟨cb60, cb61, cb62⟩ := b6.cells3
      clear cb60 cb61 cb62
      obtain ⟨cb60, cb61, cb62⟩ := b6.cells3
      go_wp2_with fail
      clear cb60 cb61 cb62
      refine (pclass_x HM_c.out k_c k9.rq (by omega) (by decide) (by decide)).mono ?_
      rintro e w21 ⟨rfl, hb⟩
      replace k0 := k0.below hb
      replace k1 := k1.below hb
      replace k9 := k9.below hb
      replace k_u := k_u.below hb
      replace k_i := k_i.below hb
      replace k_d := k_d.below hb
      replace k_c := k_c.below hb
      replace b6 := b6.below hb
      replace H0 := H0.trans (hb.mono H0.size)
      clear hb
      obtain ⟨cb60, cb61, cb62⟩ := b6.cells3
      clear cb60 cb61 cb62
      go_wp2_with fail
      refine (known6_any _).mono ?_
      rintro e w22 ⟨rfl, hb⟩
      replace k0 := k0.below hb
      replace k1 := k1.below hb
      replace k9 := k9.below hb
      replace k_u := k_u.below hb
      replace k_i := k_i.below hb
      replace k_d := k_d.below hb
      replace k_c := k_c.below hb
      replace b6 := b6.below hb
      replace H0 := H0.trans (hb.mono H0.size)
      clear hb
      go_wp2_with fail
      refine (lclass_t _).mono ?_
      rintro e w23 ⟨rfl, hb⟩
      replace k0 := k0.below hb
      replace k1 := k1.below hb
      replace k9 := k9.below hb
      replace k_u := k_u.below hb
      replace k_i := k_i.below hb
      replace k_d := k_d.below hb
      replace k_c := k_c.below hb
      replace b6 := b6.below hb
      replace H0 := H0.trans (hb.mono H0.size)
      clear hb
      go_wp2_with fail
      refine (lclass_f _).mono ?_
      rintro e w24 ⟨rfl, hb⟩
      replace k0 := k0.below hb
      replace k1 := k1.below hb
      replace k9 := k9.below hb
      replace k_u := k_u.below hb
      replace k_i := k_i.below hb
      replace k_d := k_d.below hb
      replace k_c := k_c.below hb
      replace b6 := b6.below hb
      replace H0 := H0.trans (hb.mono H0.size)
      clear hb
      go_wp2_with fail
      refine (lclass_t _).mono ?_
      rintro e w25 ⟨rfl, hb⟩
      replace k0 := k0.below hb
      replace k1 := k1.below hb
      replace k9 := k9.below hb
      replace k_u := k_u.below hb
      replace k_i := k_i.below hb
      replace k_d := k_d.below hb
      replace k_c := k_c.below hb
      replace b6 := b6.below hb
      replace H0 := H0.trans (hb.mono H0.size)
      clear hb
      go_wp2_with fail
      refine (lclass_f _).mono ?_
      rintro e w26 ⟨rfl, hb⟩
      replace k0 := k0.below hb
      replace k1 := k1.below hb
      replace k9 := k9.below hb
      replace k_u := k_u.below hb
      replace k_i := k_i.below hb
      replace k_d := k_d.below hb
      replace k_c := k_c.below hb
      replace b6 := b6.below hb
      replace H0 := H0.trans (hb.mono H0.size)
      clear hb
      go_wp2_with fail
      go_returns
      exact ⟨rfl, H0⟩
  · rcases sb with rfl | ⟨rfl, m1, e1_⟩ | ⟨rfl, m1, e1_⟩
    · clear m0 e0_
      go_wp2_with fail
      refine (known6_any _).mono ?_
      rintro e w14 ⟨rfl, hb⟩
      replace k0 := k0.below hb
      replace k1 := k1.below hb
      replace k9 := k9.below hb
      replace b6 := b6.below hb
      replace H0 := H0.trans (hb.mono H0.size)
      clear hb
      go_wp2_with fail
      go_returns
      exact ⟨rfl, H0⟩
    · go_wp2_with fail
      refine (sunion_v k0 (by omega) k1 (by omega) (by decide) (by decide)).mono ?_
      rintro e w14 ⟨v_u, rfl, ⟨t_u, k_u, m_u, l_u, e_u⟩, hb⟩
      replace k0 := k0.below hb
      replace k1 := k1.below hb
      replace k9 := k9.below hb
      replace b6 := b6.below hb
      replace H0 := H0.trans (hb.mono H0.size)
      clear hb
      have E_u := Lib.hid e_u
      clear e_u
      try simp only [List.length_nil, Nat.add_zero] at l_u
      go_wp2_with fail
      refine (sinter_v k0 (by omega) k1 (by omega) (by decide) (by decide)).mono ?_
      rintro e w15 ⟨v_i, rfl, ⟨t_i, k_i, m_i, l_i, e_i⟩, hb⟩
      replace k0 := k0.below hb
      replace k1 := k1.below hb
      replace k9 := k9.below hb
      replace k_u := k_u.below hb
      replace b6 := b6.below hb
      replace H0 := H0.trans (hb.mono H0.size)
      clear hb
      have E_i := Lib.hid e_i
      clear e_i
      try simp only [List.length_nil, Nat.add_zero] at l_i
      go_wp2_with fail
      refine (ssub_v k0 (by omega) k1 (by omega) (by decide) (by decide)).mono ?_
      rintro e w16 ⟨v_d, rfl, ⟨t_d, k_d, m_d, l_d, e_d⟩, hb⟩
      replace k0 := k0.below hb
      replace k1 := k1.below hb
      replace k9 := k9.below hb
      replace k_u := k_u.below hb
      replace k_i := k_i.below hb
      replace b6 := b6.below hb
      replace H0 := H0.trans (hb.mono H0.size)
      clear hb
      have E_d := Lib.hid e_d
      clear e_d
      try simp only [List.length_nil, Nat.add_zero] at l_d
      go_wp2_with fail
      refine (scompl_v k0 (by omega) (by decide) (by decide)).mono ?_
      rintro e w17 ⟨v_c, rfl, ⟨t_c, k_c, m_c, l_c, e_c⟩, hb⟩
      replace k0 := k0.below hb
      replace k1 := k1.below hb
      replace k9 := k9.below hb
      replace k_u := k_u.below hb
      replace k_i := k_i.below hb
      replace k_d := k_d.below hb
      replace b6 := b6.below hb
      replace H0 := H0.trans (hb.mono H0.size)
      clear hb
      have E_c := Lib.hid e_c
      clear e_c
      try simp only [List.length_nil, Nat.add_zero] at l_c
      have HM_u : Hid (clsL (spansOf (g0 || g1) t_u) q = 2) := Lib.hid (by rw [cls_set k_u.2 (fun hm => (m_u q hm).elim m0 m1), E_u.out q m0 m1]; simp only [e0_, e1_]; rfl)
      have HM_i : Hid (clsL (spansOf (g0 && g1) t_i) q = 0) := Lib.hid (by rw [cls_set k_i.2 (fun hm => (m_i q hm).elim m0 m1), E_i.out q m0 m1]; simp only [e0_, e1_]; rfl)
      have HM_d : Hid (clsL (spansOf (g0 && !g1) t_d) q = 0) := Lib.hid (by rw [cls_set k_d.2 (fun hm => (m_d q hm).elim m0 m1), E_d.out q m0 m1]; simp only [evT_not, e0_, e1_]; rfl)
      have HM_c : Hid (clsL (spansOf (!g0 || false) t_c) q = 2) := Lib.hid (by rw [cls_set k_c.2 (fun hm => (m_c q hm).elim m0 (fun h => (by cases h))), E_c.out q m0 (fun h => (by cases h))]; simp only [evT_not, evT_nil, e0_]; rfl)
      clear m0 m1 e0_ e1_ m_u E_u m_i E_i m_d E_d m_c E_c
      obtain ⟨cb60, cb61, cb62⟩ := b6.cells3
      go_wp2_with fail
      clear cb60 cb61 cb62
      refine (pclass_x HM_u.out k_u k9.rq (by omega) (by decide) (by decide)).mono ?_
      rintro e w18 ⟨rfl, hb⟩
      replace k0 := k0.below hb
      replace k1 := k1.below hb
      replace k9 := k9.below hb
      replace k_u := k_u.below hb
      replace k_i := k_i.below hb
      replace k_d := k_d.below hb
      replace k_c := k_c.below hb
      replace b6 := b6.below hb
      replace H0 := H0.trans (hb.mono H0.size)
      clear hb
      obtain ⟨cb60, cb61, cb62⟩ := b6.cells3
      clear cb60 cb61 cb62
      obtain ⟨cb60, cb61, cb62⟩ := b6.cells3
      go_wp2_with fail
      clear cb60 cb61 cb62
      refine (pclass_x HM_i.out k_i k9.rq (by omega) (by decide) (by decide)).mono ?_
      rintro e w19 ⟨rfl, hb⟩
      replace k0 := k0.below hb
      replace k1 := k1.below hb
      replace k9 := k9.below hb
      replace k_u := k_u.below hb
      replace k_i := k_i.below hb
      replace k_d := k_d.below hb
      replace k_c := k_c.below hb
      replace b6 := b6.below hb
      replace H0 := H0.trans (hb.mono H0.size)
      clear hb
      obtain ⟨cb60, cb61, cb62⟩ := b6.cells3
      clear cb60 cb61 cb62
      obtain ⟨cb60, cb61, cb62⟩ := b6.cells3
      go_wp2_with fail
      clear cb60 cb61 cb62
      refine (pclass_x HM_d.out k_d k9.rq (by omega) (by decide) (by decide)).mono ?_
      rintro e w20 ⟨rfl, hb⟩
      replace k0 := k0.below hb
      replace k1 := k1.below hb
      replace k9 := k9.below hb
      replace k_u := k_u.below hb
      replace k_i := k_i.below hb
      replace k_d := k_d.below hb
      replace k_c := k_c.below hb
      replace b6 := b6.below hb
      replace H0 := H0.trans (hb.mono H0.size)
      clear hb
      obtain ⟨cb60, cb61, cb62⟩ := b6.cells3
      clear cb60 cb61 cb62
      obtain ⟨cb60, cb61, cb62⟩ := b6.cells3
      go_wp2_with fail
      clear cb60 cb61 cb62
      refine (pclass_x HM_c.out k_c k9.rq (by omega) (by decide) (by decide)).mono ?_
      rintro e w21 ⟨rfl, hb⟩
      replace k0 := k0.below hb
      replace k1 := k1.below hb
      replace k9 := k9.below hb
      replace k_u := k_u.below hb
      replace k_i := k_i.below hb
      replace k_d := k_d.below hb
      replace k_c := k_c.below hb
      replace b6 := b6.below hb
      replace H0 := H0.trans (hb.mono H0.size)
      clear hb
      obtain ⟨cb60, cb61, cb62⟩ := b6.cells3
      clear cb60 cb61 cb62
      go_wp2_with fail
      refine (known6_any _).mono ?_
      rintro e w22 ⟨rfl, hb⟩
      replace k0 := k0.below hb
      replace k1 := k1.below hb
      replace k9 := k9.below hb
      replace k_u := k_u.below hb
      replace k_i := k_i.below hb
      replace k_d := k_d.below hb
      replace k_c := k_c.below hb
      replace b6 := b6.below hb
      replace H0 := H0.trans (hb.mono H0.size)
      clear hb
      go_wp2_with fail
      refine (lclass_t _).mono ?_
      rintro e w23 ⟨rfl, hb⟩
      replace k0 := k0.below hb
      replace k1 := k1.below hb
      replace k9 := k9.below hb
      replace k_u := k_u.below hb
      replace k_i := k_i.below hb
      replace k_d := k_d.below hb
      replace k_c := k_c.below hb
      replace b6 := b6.below hb
      replace H0 := H0.trans (hb.mono H0.size)
      clear hb
      go_wp2_with fail
      refine (lclass_f _).mono ?_
      rintro e w24 ⟨rfl, hb⟩
      replace k0 := k0.below hb
      replace k1 := k1.below hb
      replace k9 := k9.below hb
      replace k_u := k_u.below hb
      replace k_i := k_i.below hb
      replace k_d := k_d.below hb
      replace k_c := k_c.below hb
      replace b6 := b6.below hb
      replace H0 := H0.trans (hb.mono H0.size)
      clear hb
      go_wp2_with fail
      refine (lclass_f _).mono ?_
      rintro e w25 ⟨rfl, hb⟩
      replace k0 := k0.below hb
      replace k1 := k1.below hb
      replace k9 := k9.below hb
      replace k_u := k_u.below hb
      replace k_i := k_i.below hb
      replace k_d := k_d.below hb
      replace k_c := k_c.below hb
      replace b6 := b6.below hb
      replace H0 := H0.trans (hb.mono H0.size)
      clear hb
      go_wp2_with fail
      refine (lclass_t _).mono ?_
      rintro e w26 ⟨rfl, hb⟩
      replace k0 := k0.below hb
      replace k1 := k1.below hb
      replace k9 := k9.below hb
      replace k_u := k_u.below hb
      replace k_i := k_i.below hb
      replace k_d := k_d.below hb
      replace k_c := k_c.below hb
      replace b6 := b6.below hb
      replace H0 := H0.trans (hb.mono H0.size)
      clear hb
      go_wp2_with fail
      go_returns
      exact ⟨rfl, H0⟩
    · go_wp2_with fail
      refine (sunion_v k0 (by omega) k1 (by omega) (by decide) (by decide)).mono ?_
      rintro e w14 ⟨v_u, rfl, ⟨t_u, k_u, m_u, l_u, e_u⟩, hb⟩
      replace k0 := k0.below hb
      replace k1 := k1.below hb
      replace k9 := k9.below hb
      replace b6 := b6.below hb
      replace H0 := H0.trans (hb.mono H0.size)
      clear hb
      have E_u := Lib.hid e_u
      clear e_u
      try simp only [List.length_nil, Nat.add_zero] at l_u
      go_wp2_with fail
      refine (sinter_v k0 (by omega) k1 (by omega) (by decide) (by decide)).mono ?_
      rintro e w15 ⟨v_i, rfl, ⟨t_i, k_i, m_i, l_i, e_i⟩, hb⟩
      replace k0 := k0.below hb
      replace k1 := k1.below hb
      replace k9 := k9.below hb
      replace k_u := k_u.below hb
      replace b6 := b6.below hb
      replace H0 := H0.trans (hb.mono H0.size)
      clear hb
      have E_i := Lib.hid e_i
      clear e_i
      try simp only [List.length_nil, Nat.add_zero] at l_i
      go_wp2_with fail
      refine (ssub_v k0 (by omega) k1 (by omega) (by decide) (by decide)).mono ?_
      rintro e w16 ⟨v_d, rfl, ⟨t_d, k_d, m_d, l_d, e_d⟩, hb⟩
      replace k0 := k0.below hb
      replace k1 := k1.below hb
      replace k9 := k9.below hb
      replace k_u := k_u.below hb
      replace k_i := k_i.below hb
      replace b6 := b6.below hb
      replace H0 := H0.trans (hb.mono H0.size)
      clear hb
      have E_d := Lib.hid e_d
      clear e_d
      try simp only [List.length_nil, Nat.add_zero] at l_d
      go_wp2_with fail
      refine (scompl_v k0 (by omega) (by decide) (by decide)).mono ?_
      rintro e w17 ⟨v_c, rfl, ⟨t_c, k_c, m_c, l_c, e_c⟩, hb⟩
      replace k0 := k0.below hb
      replace k1 := k1.below hb
      replace k9 := k9.below hb
      replace k_u := k_u.below hb
      replace k_i := k_i.below hb
      replace k_d := k_d.below hb
      replace b6 := b6.below hb
      replace H0 := H0.trans (hb.mono H0.size)
      clear hb
      have E_c := Lib.hid e_c
      clear e_c
      try simp only [List.length_nil, Nat.add_zero] at l_c
      have HM_u : Hid (clsL (spansOf (g0 || g1) t_u) q = 0) := Lib.hid (by rw [cls_set k_u.2 (fun hm => (m_u q hm).elim m0 m1), E_u.out q m0 m1]; simp only [e0_, e1_]; rfl)
      have HM_i : Hid (clsL (spansOf (g0 && g1) t_i) q = 0) := Lib.hid (by rw [cls_set k_i.2 (fun hm => (m_i q hm).elim m0 m1), E_i.out q m0 m1]; simp only [e0_, e1_]; rfl)
      have HM_d : Hid (clsL (spansOf (g0 && !g1) t_d) q = 0) := Lib.hid (by rw [cls_set k_d.2 (fun hm => (m_d q hm).elim m0 m1), E_d.out q m0 m1]; simp only [evT_not, e0_, e1_]; rfl)
      have HM_c : Hid (clsL (spansOf (!g0 || false) t_c) q = 2) := Lib.hid (by rw [cls_set k_c.2 (fun hm => (m_c q hm).elim m0 (fun h => (by cases h))), E_c.out q m0 (fun h => (by cases h))]; simp only [evT_not, evT_nil, e0_]; rfl)
      clear m0 m1 e0_ e1_ m_u E_u m_i E_i m_d E_d m_c E_c
      obtain ⟨cb60, cb61, cb62⟩ := b6.cells3
      go_wp2_with fail
      clear cb60 cb61 cb62
      refine (pclass_x HM_u.out k_u k9.rq (by omega) (by decide) (by decide)).mono ?_
      rintro e w18 ⟨rfl, hb⟩
      replace k0 := k0.below hb
      replace k1 := k1.below hb
      replace k9 := k9.below hb
      replace k_u := k_u.below hb
      replace k_i := k_i.below hb
      replace k_d := k_d.below hb
      replace k_c := k_c.below hb
      replace b6 := b6.below hb
      replace H0 := H0.trans (hb.mono H0.size)
      clear hb
      obtain ⟨cb60, cb61, cb62⟩ := b6.cells3
      clear cb60 cb61 cb62
      obtain ⟨cb60, cb61, cb62⟩ := b6.cells3
      go_wp2_with fail
      clear cb60 cb61 cb62
      refine (pclass_x HM_i.out k_i k9.rq (by omega) (by decide) (by decide)).mono ?_
      rintro e w19 ⟨rfl, hb⟩
      replace k0 := k0.below hb
      replace k1 := k1.below hb
      replace k9 := k9.below hb
      replace k_u := k_u.below hb
      replace k_i := k_i.below hb
      replace k_d := k_d.below hb
      replace k_c := k_c.below hb
      replace b6 := b6.below hb
      replace H0 := H0.trans (hb.mono H0.size)
      clear hb
      obtain ⟨cb60, cb61, cb62⟩ := b6.cells3
      clear cb60 cb61 cb62
      obtain ⟨cb60, cb61, cb62⟩ := b6.cells3
      go_wp2_with fail
      clear cb60 cb61 cb62
      refine (pclass_x HM_d.out k_d k9.rq (by omega) (by decide) (by decide)).mono ?_
      rintro e w20 ⟨rfl, hb⟩
      replace k0 := k0.below hb
      replace k1 := k1.below hb
      replace k9 := k9.below hb
      replace k_u := k_u.below hb
      replace k_i := k_i.below hb
      replace k_d := k_d.below hb
      replace k_c := k_c.below hb
      replace b6 := b6.below hb
      replace H0 := H0.trans (hb.mono H0.size)
      clear hb
      obtain ⟨cb60, cb61, cb62⟩ := b6.cells3
      clear cb60 cb61 cb62
      obtain ⟨cb60, cb61, cb62⟩ := b6.cells3
      go_wp2_with fail
      clear cb60 cb61 cb62
      refine (pclass_x HM_c.out k_c k9.rq (by omega) (by decide) (by decide)).mono ?_
      rintro e w21 ⟨rfl, hb⟩
      replace k0 := k0.below hb
      replace k1 := k1.below hb
      replace k9 := k9.below hb
      replace k_u := k_u.below hb
      replace k_i := k_i.below hb
      replace k_d := k_d.below hb
      replace k_c := k_c.below hb
      replace b6 := b6.below hb
      replace H0 := H0.trans (hb.mono H0.size)
      clear hb
      obtain ⟨cb60, cb61, cb62⟩ := b6.cells3
      clear cb60 cb61 cb62
      go_wp2_with fail
      refine (known6_any _).mono ?_
      rintro e w22 ⟨rfl, hb⟩
      replace k0 := k0.below hb
      replace k1 := k1.below hb
      replace k9 := k9.below hb
      replace k_u := k_u.below hb
      replace k_i := k_i.below hb
      replace k_d := k_d.below hb
      replace k_c := k_c.below hb
      replace b6 := b6.below hb
      replace H0 := H0.trans (hb.mono H0.size)
      clear hb
      go_wp2_with fail
      refine (lclass_f _).mono ?_
      rintro e w23 ⟨rfl, hb⟩
      replace k0 := k0.below hb
      replace k1 := k1.below hb
      replace k9 := k9.below hb
      replace k_u := k_u.below hb
      replace k_i := k_i.below hb
      replace k_d := k_d.below hb
      replace k_c := k_c.below hb
      replace b6 := b6.below hb
      replace H0 := H0.trans (hb.mono H0.size)
      clear hb
      go_wp2_with fail
      refine (lclass_f _).mono ?_
      rintro e w24 ⟨rfl, hb⟩
      replace k0 := k0.below hb
      replace k1 := k1.below hb
      replace k9 := k9.below hb
      replace k_u := k_u.below hb
      replace k_i := k_i.below hb
      replace k_d := k_d.below hb
      replace k_c := k_c.below hb
      replace b6 := b6.below hb
      replace H0 := H0.trans (hb.mono H0.size)
      clear hb
      go_wp2_with fail
      refine (lclass_f _).mono ?_
      rintro e w25 ⟨rfl, hb⟩
      replace k0 := k0.below hb
      replace k1 := k1.below hb
      replace k9 := k9.below hb
      replace k_u := k_u.below hb
      replace k_i := k_i.below hb
      replace k_d := k_d.below hb
      replace k_c := k_c.below hb
      replace b6 := b6.below hb
      replace H0 := H0.trans (hb.mono H0.size)
      clear hb
      go_wp2_with fail
      refine (lclass_t _).mono ?_
      rintro e w26 ⟨rfl, hb⟩
      replace k0 := k0.below hb
      replace k1 := k1.below hb
      replace k9 := k9.below hb
      replace k_u := k_u.below hb
      replace k_i := k_i.below hb
      replace k_d := k_d.below hb
      replace k_c := k_c.below hb
      replace b6 := b6.below hb
      replace H0 := H0.trans (hb.mono H0.size)
      clear hb
      go_wp2_with fail
      go_returns
      exact ⟨rfl, H0⟩
end
end Go.Proofs.YtfdlkbbepkghmaaGreatDoor
