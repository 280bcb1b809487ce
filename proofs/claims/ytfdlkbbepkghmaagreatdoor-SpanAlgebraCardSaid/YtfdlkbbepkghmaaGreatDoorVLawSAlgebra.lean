/-
  The walk of the law SpanAlgebra.
-/
import Derived.Test.YtfdlkbbepkghmaaGreatDoorVBox
import Derived.Test.YtfdlkbbepkghmaaGreatDoorVDivLong
import Derived.Test.YtfdlkbbepkghmaaGreatDoorVFormI
import Derived.Test.YtfdlkbbepkghmaaGreatDoorVK1
import Derived.Test.YtfdlkbbepkghmaaGreatDoorVK2
import Derived.Test.YtfdlkbbepkghmaaGreatDoorVK3
import Derived.Test.YtfdlkbbepkghmaaGreatDoorVK4
import Derived.Test.YtfdlkbbepkghmaaGreatDoorVK5
import Derived.Test.YtfdlkbbepkghmaaGreatDoorVK6
import Derived.Test.YtfdlkbbepkghmaaGreatDoorVK7
import Derived.Test.YtfdlkbbepkghmaaGreatDoorVK8
import Derived.Test.YtfdlkbbepkghmaaGreatDoorVK9
import Derived.Test.YtfdlkbbepkghmaaGreatDoorVN1
import Derived.Test.YtfdlkbbepkghmaaGreatDoorVOrd
import Derived.Test.YtfdlkbbepkghmaaGreatDoorVPP
import Derived.Test.YtfdlkbbepkghmaaGreatDoorVR1
import Derived.Test.YtfdlkbbepkghmaaGreatDoorVRA
import Derived.Test.YtfdlkbbepkghmaaGreatDoorVRatD
import Derived.Test.YtfdlkbbepkghmaaGreatDoorVRatO
import Derived.Test.YtfdlkbbepkghmaaGreatDoorVRatR
import Derived.Test.YtfdlkbbepkghmaaGreatDoorVRatS
import Derived.Test.YtfdlkbbepkghmaaGreatDoorVS1
import Derived.Test.YtfdlkbbepkghmaaGreatDoorVSA
import Derived.Test.YtfdlkbbepkghmaaGreatDoorVSG
import Derived.Test.YtfdlkbbepkghmaaGreatDoorVShelf
import Derived.Test.YtfdlkbbepkghmaaGreatDoorVSpH
import Derived.Test.YtfdlkbbepkghmaaGreatDoorVSpI
import Derived.Test.YtfdlkbbepkghmaaGreatDoorVSpJ
import Derived.Test.YtfdlkbbepkghmaaGreatDoorVSpK
import Derived.Test.YtfdlkbbepkghmaaGreatDoorVSpM
import Derived.Test.YtfdlkbbepkghmaaGreatDoorVSpN
import Derived.Test.YtfdlkbbepkghmaaGreatDoorVSpP
import Derived.Test.YtfdlkbbepkghmaaGreatDoorVSpQ
import Derived.Test.YtfdlkbbepkghmaaGreatDoorVSpR
import Derived.Test.YtfdlkbbepkghmaaGreatDoorVSpS
import Derived.Test.YtfdlkbbepkghmaaGreatDoorVSpT
import Derived.Test.YtfdlkbbepkghmaaGreatDoorVSpU
import Derived.Test.YtfdlkbbepkghmaaGreatDoorVSpV
import Derived.Test.YtfdlkbbepkghmaaGreatDoorVSpW
import Derived.Test.YtfdlkbbepkghmaaGreatDoorVSpW0
import Derived.Test.YtfdlkbbepkghmaaGreatDoorVSpX
import Derived.Test.YtfdlkbbepkghmaaGreatDoorVSpY
import Derived.Test.YtfdlkbbepkghmaaGreatDoorVSpZ
import Derived.Test.YtfdlkbbepkghmaaGreatDoorVTT
import Derived.IntWalk
import Derived.Deep.Cut
namespace Go.Proofs.YtfdlkbbepkghmaaGreatDoor
open Go.RowKit

section
variable {f0 h0 f1 h1 f2 h2 f3 h3 f4 h4 f5 h5 f6 h6 f7 h7 f8 h8 f9 h9 f10 h10 f11 h11 : Bool}   {s0 s1 s2 : Bool} {q0 q1 q2 q3 q4 q5 q6 q7 : Rat} {z0 z1 z2 z3 z4 z5 z6 z7 z8 z9 z10 z11 : Int} {L L0 L1 x y : Nat} {k : Int} {w : World}
variable {o0 o1 o2 o3 : Option Rat} {l l' : List Sp}
set_option maxRecDepth 100000 in
set_option maxHeartbeats 16000000 in
theorem spanalgebra_any {v : Value} (HI : Ints w v) :
    Calls Tryz.prog 7 #[v] w fun e w' => e = .returned (.bool true) ∧ Below w.heap.size w w' := by
  go_enter Tryz.func7, Tryz.ntmps7
  go_wp2_with fail
  refine (new_any HI).mono ?_
  rintro e w1 ⟨rfl, hT, H0, hsz⟩
  have hlt : w.heap.size < w1.heap.size := by omega
  clear hsz HI
  go_wp2_with fail
  refine (smade_v hT hlt).mono ?_
  rintro e w2 ⟨v0_, g0, t0, rfl, h0_, ha0, hl0, hT', hg⟩
  replace hlt := Nat.lt_of_lt_of_le hlt hg.size
  replace H0 := H0.grown hg H0.size (by rintro k hk; injection hk with hk; omega)
  clear hT
  have hT := hT'
  clear hT' hg
  go_wp2_with fail
  refine (writeall_v h0_ (by have := set_len g0 t0; omega) (by decide)).mono ?_
  rintro e w3 ⟨y0_, rfl, s0_, hb⟩
  replace h0_ := h0_.below hb
  replace hT := hT.keep hb hlt
  replace hlt := Nat.lt_of_lt_of_le hlt hb.size
  replace H0 := H0.trans (hb.mono H0.size)
  clear hb
  clear h0_
  have k0 : SetV w3 5 y0_ g0 t0 := ⟨s0_, ha0⟩
  clear s0_ ha0
  go_wp2_with fail
  refine (smade_v hT hlt).mono ?_
  rintro e w4 ⟨v1_, g1, t1, rfl, h1_, ha1, hl1, hT', hg⟩
  replace k0 := k0.tape hT hg
  replace hlt := Nat.lt_of_lt_of_le hlt hg.size
  replace H0 := H0.grown hg H0.size (by rintro k hk; injection hk with hk; omega)
  clear hT
  have hT := hT'
  clear hT' hg
  go_wp2_with fail
  refine (writeall_v h1_ (by have := set_len g1 t1; omega) (by decide)).mono ?_
  rintro e w5 ⟨y1_, rfl, s1_, hb⟩
  replace k0 := k0.below hb
  replace h1_ := h1_.below hb
  replace hT := hT.keep hb hlt
  replace hlt := Nat.lt_of_lt_of_le hlt hb.size
  replace H0 := H0.trans (hb.mono H0.size)
  clear hb
  clear h1_
  have k1 : SetV w5 5 y1_ g1 t1 := ⟨s1_, ha1⟩
  clear s1_ ha1
  go_wp2_with fail
  refine (smade_v hT hlt).mono ?_
  rintro e w6 ⟨v2_, g2, t2, rfl, h2_, ha2, hl2, hT', hg⟩
  replace k0 := k0.tape hT hg
  replace k1 := k1.tape hT hg
  replace hlt := Nat.lt_of_lt_of_le hlt hg.size
  replace H0 := H0.grown hg H0.size (by rintro k hk; injection hk with hk; omega)
  clear hT
  have hT := hT'
  clear hT' hg
  go_wp2_with fail
  refine (writeall_v h2_ (by have := set_len g2 t2; omega) (by decide)).mono ?_
  rintro e w7 ⟨y2_, rfl, s2_, hb⟩
  replace k0 := k0.below hb
  replace k1 := k1.below hb
  replace h2_ := h2_.below hb
  replace hT := hT.keep hb hlt
  replace hlt := Nat.lt_of_lt_of_le hlt hb.size
  replace H0 := H0.trans (hb.mono H0.size)
  clear hb
  clear h2_
  have k2 : SetV w7 5 y2_ g2 t2 := ⟨s2_, ha2⟩
  clear s2_ ha2
  clear hT hlt
  go_wp2_with fail
  refine (sunion_v k0 (by omega) k1 (by omega) (by decide) (by decide)).mono ?_
  rintro e w8 ⟨v_u, rfl, ⟨t_u, k_u, -, l_u, e_u⟩, hb⟩
  replace k0 := k0.below hb
  replace k1 := k1.below hb
  replace k2 := k2.below hb
  replace H0 := H0.trans (hb.mono H0.size)
  clear hb
  have E_u := Lib.hid e_u
  clear e_u
  try simp only [List.length_nil, Nat.add_zero] at l_u
  go_wp2_with fail
  refine (sinter_v k0 (by omega) k1 (by omega) (by decide) (by decide)).mono ?_
  rintro e w9 ⟨v_i, rfl, ⟨t_i, k_i, -, l_i, e_i⟩, hb⟩
  replace k0 := k0.below hb
  replace k1 := k1.below hb
  replace k2 := k2.below hb
  replace k_u := k_u.below hb
  replace H0 := H0.trans (hb.mono H0.size)
  clear hb
  have E_i := Lib.hid e_i
  clear e_i
  try simp only [List.length_nil, Nat.add_zero] at l_i
  go_wp2_with fail
  refine (scompl_v k0 (by omega) (by decide) (by decide)).mono ?_
  rintro e w10 ⟨v_na, rfl, ⟨t_na, k_na, -, l_na, e_na⟩, hb⟩
  replace k0 := k0.below hb
  replace k1 := k1.below hb
  replace k2 := k2.below hb
  replace k_u := k_u.below hb
  replace k_i := k_i.below hb
  replace H0 := H0.trans (hb.mono H0.size)
  clear hb
  have E_na := Lib.hid e_na
  clear e_na
  try simp only [List.length_nil, Nat.add_zero] at l_na
  go_wp2_with fail
  refine (scompl_v k1 (by omega) (by decide) (by decide)).mono ?_
  rintro e w11 ⟨v_nb, rfl, ⟨t_nb, k_nb, -, l_nb, e_nb⟩, hb⟩
  replace k0 := k0.below hb
  replace k1 := k1.below hb
  replace k2 := k2.below hb
  replace k_u := k_u.below hb
  replace k_i := k_i.below hb
  replace k_na := k_na.below hb
  replace H0 := H0.trans (hb.mono H0.size)
  clear hb
  have E_nb := Lib.hid e_nb
  clear e_nb
  try simp only [List.length_nil, Nat.add_zero] at l_nb
  go_wp2_with fail
  refine (scompl_v k_u (by omega) (by decide) (by decide)).mono ?_
  rintro e w12 ⟨v_nu, rfl, ⟨t_nu, k_nu, -, l_nu, e_nu⟩, hb⟩
  replace k0 := k0.below hb
  replace k1 := k1.below hb
  replace k2 := k2.below hb
  replace k_u := k_u.below hb
  replace k_i := k_i.below hb
  replace k_na := k_na.below hb
  replace k_nb := k_nb.below hb
  replace H0 := H0.trans (hb.mono H0.size)
  clear hb
  have E_nu := Lib.hid e_nu
  clear e_nu
  try simp only [List.length_nil, Nat.add_zero] at l_nu
  go_wp2_with fail
  refine (sinter_v k_na (by omega) k_nb (by omega) (by decide) (by decide)).mono ?_
  rintro e w13 ⟨v_ni, rfl, ⟨t_ni, k_ni, -, l_ni, e_ni⟩, hb⟩
  replace k0 := k0.below hb
  replace k1 := k1.below hb
  replace k2 := k2.below hb
  replace k_u := k_u.below hb
  replace k_i := k_i.below hb
  replace k_na := k_na.below hb
  replace k_nb := k_nb.below hb
  replace k_nu := k_nu.below hb
  replace H0 := H0.trans (hb.mono H0.size)
  clear hb
  have E_ni := Lib.hid e_ni
  clear e_ni
  try simp only [List.length_nil, Nat.add_zero] at l_ni
  go_wp2_with fail
  refine (scompl_v k_na (by omega) (by decide) (by decide)).mono ?_
  rintro e w14 ⟨v_back, rfl, ⟨t_back, k_back, -, l_back, e_back⟩, hb⟩
  replace k0 := k0.below hb
  replace k1 := k1.below hb
  replace k2 := k2.below hb
  replace k_u := k_u.below hb
  replace k_i := k_i.below hb
  replace k_na := k_na.below hb
  replace k_nb := k_nb.below hb
  replace k_nu := k_nu.below hb
  replace k_ni := k_ni.below hb
  replace H0 := H0.trans (hb.mono H0.size)
  clear hb
  have E_back := Lib.hid e_back
  clear e_back
  try simp only [List.length_nil, Nat.add_zero] at l_back
  go_wp2_with fail
  refine (sunion_v k1 (by omega) k2 (by omega) (by decide) (by decide)).mono ?_
  rintro e w15 ⟨v_bc, rfl, ⟨t_bc, k_bc, -, l_bc, e_bc⟩, hb⟩
  replace k0 := k0.below hb
  replace k1 := k1.below hb
  replace k2 := k2.below hb
  replace k_u := k_u.below hb
  replace k_i := k_i.below hb
  replace k_na := k_na.below hb
  replace k_nb := k_nb.below hb
  replace k_nu := k_nu.below hb
  replace k_ni := k_ni.below hb
  replace k_back := k_back.below hb
  replace H0 := H0.trans (hb.mono H0.size)
  clear hb
  have E_bc := Lib.hid e_bc
  clear e_bc
  try simp only [List.length_nil, Nat.add_zero] at l_bc
  go_wp2_with fail
  refine (sinter_v k0 (by omega) k_bc (by omega) (by decide) (by decide)).mono ?_
  rintro e w16 ⟨v_left, rfl, ⟨t_left, k_left, -, l_left, e_left⟩, hb⟩
  replace k0 := k0.below hb
  replace k1 := k1.below hb
  replace k2 := k2.below hb
  replace k_u := k_u.below hb
  replace k_i := k_i.below hb
  replace k_na := k_na.below hb
  replace k_nb := k_nb.below hb
  replace k_nu := k_nu.below hb
  replace k_ni := k_ni.below hb
  replace k_back := k_back.below hb
  replace k_bc := k_bc.below hb
  replace H0 := H0.trans (hb.mono H0.size)
  clear hb
  have E_left := Lib.hid e_left
  clear e_left
  try simp only [List.length_nil, Nat.add_zero] at l_left
  go_wp2_with fail
  refine (sinter_v k0 (by omega) k2 (by omega) (by decide) (by decide)).mono ?_
  rintro e w17 ⟨v_ac, rfl, ⟨t_ac, k_ac, -, l_ac, e_ac⟩, hb⟩
  replace k0 := k0.below hb
  replace k1 := k1.below hb
  replace k2 := k2.below hb
  replace k_u := k_u.below hb
  replace k_i := k_i.below hb
  replace k_na := k_na.below hb
  replace k_nb := k_nb.below hb
  replace k_nu := k_nu.below hb
  replace k_ni := k_ni.below hb
  replace k_back := k_back.below hb
  replace k_bc := k_bc.below hb
  replace k_left := k_left.below hb
  replace H0 := H0.trans (hb.mono H0.size)
  clear hb
  have E_ac := Lib.hid e_ac
  clear e_ac
  try simp only [List.length_nil, Nat.add_zero] at l_ac
  go_wp2_with fail
  refine (sunion_v k_i (by omega) k_ac (by omega) (by decide) (by decide)).mono ?_
  rintro e w18 ⟨v_right, rfl, ⟨t_right, k_right, -, l_right, e_right⟩, hb⟩
  replace k0 := k0.below hb
  replace k1 := k1.below hb
  replace k2 := k2.below hb
  replace k_u := k_u.below hb
  replace k_i := k_i.below hb
  replace k_na := k_na.below hb
  replace k_nb := k_nb.below hb
  replace k_nu := k_nu.below hb
  replace k_ni := k_ni.below hb
  replace k_back := k_back.below hb
  replace k_bc := k_bc.below hb
  replace k_left := k_left.below hb
  replace k_ac := k_ac.below hb
  replace H0 := H0.trans (hb.mono H0.size)
  clear hb
  have E_right := Lib.hid e_right
  clear e_right
  try simp only [List.length_nil, Nat.add_zero] at l_right
  go_wp2_with fail
  refine (sunion_v k0 (by omega) k_i (by omega) (by decide) (by decide)).mono ?_
  rintro e w19 ⟨v_abs, rfl, ⟨t_abs, k_abs, -, l_abs, e_abs⟩, hb⟩
  replace k0 := k0.below hb
  replace k1 := k1.below hb
  replace k2 := k2.below hb
  replace k_u := k_u.below hb
  replace k_i := k_i.below hb
  replace k_na := k_na.below hb
  replace k_nb := k_nb.below hb
  replace k_nu := k_nu.below hb
  replace k_ni := k_ni.below hb
  replace k_back := k_back.below hb
  replace k_bc := k_bc.below hb
  replace k_left := k_left.below hb
  replace k_ac := k_ac.below hb
  replace k_right := k_right.below hb
  replace H0 := H0.trans (hb.mono H0.size)
  clear hb
  have E_abs := Lib.hid e_abs
  clear e_abs
  try simp only [List.length_nil, Nat.add_zero] at l_abs
  go_wp2_with fail
  refine (ssub_v k0 (by omega) k1 (by omega) (by decide) (by decide)).mono ?_
  rintro e w20 ⟨v_d, rfl, ⟨t_d, k_d, -, l_d, e_d⟩, hb⟩
  replace k0 := k0.below hb
  replace k1 := k1.below hb
  replace k2 := k2.below hb
  replace k_u := k_u.below hb
  replace k_i := k_i.below hb
  replace k_na := k_na.below hb
  replace k_nb := k_nb.below hb
  replace k_nu := k_nu.below hb
  replace k_ni := k_ni.below hb
  replace k_back := k_back.below hb
  replace k_bc := k_bc.below hb
  replace k_left := k_left.below hb
  replace k_ac := k_ac.below hb
  replace k_right := k_right.below hb
  replace k_abs := k_abs.below hb
  replace H0 := H0.trans (hb.mono H0.size)
  clear hb
  have E_d := Lib.hid e_d
  clear e_d
  try simp only [List.length_nil, Nat.add_zero] at l_d
  go_wp2_with fail
  refine (sinter_v k0 (by omega) k_nb (by omega) (by decide) (by decide)).mono ?_
  rintro e w21 ⟨v_anb, rfl, ⟨t_anb, k_anb, -, l_anb, e_anb⟩, hb⟩
  replace k0 := k0.below hb
  replace k1 := k1.below hb
  replace k2 := k2.below hb
  replace k_u := k_u.below hb
  replace k_i := k_i.below hb
  replace k_na := k_na.below hb
  replace k_nb := k_nb.below hb
  replace k_nu := k_nu.below hb
  replace k_ni := k_ni.below hb
  replace k_back := k_back.below hb
  replace k_bc := k_bc.below hb
  replace k_left := k_left.below hb
  replace k_ac := k_ac.below hb
  replace k_right := k_right.below hb
  replace k_abs := k_abs.below hb
  replace k_d := k_d.below hb
  replace H0 := H0.trans (hb.mono H0.size)
  clear hb
  have E_anb := Lib.hid e_anb
  clear e_anb
  try simp only [List.length_nil, Nat.add_zero] at l_anb
  have q_ni : SetV w21 5 v_ni (!(g0 || g1) || false) t_nu := k_nu.same k_ni (t0 ++ t1 ++ t2 ++ t_u ++ t_i ++ t_na ++ t_nb ++ t_nu ++ t_ni ++ t_back ++ t_bc ++ t_left ++ t_ac ++ t_right ++ t_abs ++ t_d ++ t_anb) (fun x hx _ _ => by
    simp only [List.mem_append, not_or] at hx
    obtain ⟨⟨⟨⟨⟨⟨⟨⟨⟨⟨⟨⟨⟨⟨⟨⟨m_a, m_b⟩, m_c⟩, m_u⟩, m_i⟩, m_na⟩, m_nb⟩, m_nu⟩, m_ni⟩, m_back⟩, m_bc⟩, m_left⟩, m_ac⟩, m_right⟩, m_abs⟩, m_d⟩, m_anb⟩ := hx
    have z_nu := E_nu.out x (by assumption) (by first | assumption | exact fun h => (by cases h))
    have z_u := E_u.out x (by assumption) (by first | assumption | exact fun h => (by cases h))
    have z_ni := E_ni.out x (by assumption) (by first | assumption | exact fun h => (by cases h))
    have z_na := E_na.out x (by assumption) (by first | assumption | exact fun h => (by cases h))
    have z_nb := E_nb.out x (by assumption) (by first | assumption | exact fun h => (by cases h))
    try simp only [Bool.or_false] at z_nu z_u z_ni z_na z_nb ⊢
    try simp only [evT_nil] at z_nu z_u z_ni z_na z_nb
    try simp only [Bool.or_false] at z_nu z_u z_ni z_na z_nb
    try simp only [evT_not] at z_nu z_u z_ni z_na z_nb ⊢
    simp only [z_nu, z_u, z_ni, z_na, z_nb]
    all_goals (cases evT g0 t0 x <;> cases evT g1 t1 x <;> cases evT g2 t2 x <;> rfl))
  have q_back : SetV w21 5 v_back g0 t0 := k0.same k_back (t0 ++ t1 ++ t2 ++ t_u ++ t_i ++ t_na ++ t_nb ++ t_nu ++ t_ni ++ t_back ++ t_bc ++ t_left ++ t_ac ++ t_right ++ t_abs ++ t_d ++ t_anb) (fun x hx _ _ => by
    simp only [List.mem_append, not_or] at hx
    obtain ⟨⟨⟨⟨⟨⟨⟨⟨⟨⟨⟨⟨⟨⟨⟨⟨m_a, m_b⟩, m_c⟩, m_u⟩, m_i⟩, m_na⟩, m_nb⟩, m_nu⟩, m_ni⟩, m_back⟩, m_bc⟩, m_left⟩, m_ac⟩, m_right⟩, m_abs⟩, m_d⟩, m_anb⟩ := hx
    have z_back := E_back.out x (by assumption) (by first | assumption | exact fun h => (by cases h))
    have z_na := E_na.out x (by assumption) (by first | assumption | exact fun h => (by cases h))
    try simp only [Bool.or_false] at z_back z_na ⊢
    try simp only [evT_nil] at z_back z_na
    try simp only [Bool.or_false] at z_back z_na
    try simp only [evT_not] at z_back z_na ⊢
    simp only [z_back, z_na]
    all_goals (cases evT g0 t0 x <;> cases evT g1 t1 x <;> cases evT g2 t2 x <;> rfl))
  have q_right : SetV w21 5 v_right (g0 && (g1 || g2)) t_left := k_left.same k_right (t0 ++ t1 ++ t2 ++ t_u ++ t_i ++ t_na ++ t_nb ++ t_nu ++ t_ni ++ t_back ++ t_bc ++ t_left ++ t_ac ++ t_right ++ t_abs ++ t_d ++ t_anb) (fun x hx _ _ => by
    simp only [List.mem_append, not_or] at hx
    obtain ⟨⟨⟨⟨⟨⟨⟨⟨⟨⟨⟨⟨⟨⟨⟨⟨m_a, m_b⟩, m_c⟩, m_u⟩, m_i⟩, m_na⟩, m_nb⟩, m_nu⟩, m_ni⟩, m_back⟩, m_bc⟩, m_left⟩, m_ac⟩, m_right⟩, m_abs⟩, m_d⟩, m_anb⟩ := hx
    have z_left := E_left.out x (by assumption) (by first | assumption | exact fun h => (by cases h))
    have z_bc := E_bc.out x (by assumption) (by first | assumption | exact fun h => (by cases h))
    have z_right := E_right.out x (by assumption) (by first | assumption | exact fun h => (by cases h))
    have z_i := E_i.out x (by assumption) (by first | assumption | exact fun h => (by cases h))
    have z_ac := E_ac.out x (by assumption) (by first | assumption | exact fun h => (by cases h))
    try simp only [Bool.or_false] at z_left z_bc z_right z_i z_ac ⊢
    try simp only [evT_nil] at z_left z_bc z_right z_i z_ac
    try simp only [Bool.or_false] at z_left z_bc z_right z_i z_ac
    try simp only [evT_not] at z_left z_bc z_right z_i z_ac ⊢
    simp only [z_left, z_bc, z_right, z_i, z_ac]
    all_goals (cases evT g0 t0 x <;> cases evT g1 t1 x <;> cases evT g2 t2 x <;> rfl))
  have q_abs : SetV w21 5 v_abs g0 t0 := k0.same k_abs (t0 ++ t1 ++ t2 ++ t_u ++ t_i ++ t_na ++ t_nb ++ t_nu ++ t_ni ++ t_back ++ t_bc ++ t_left ++ t_ac ++ t_right ++ t_abs ++ t_d ++ t_anb) (fun x hx _ _ => by
    simp only [List.mem_append, not_or] at hx
    obtain ⟨⟨⟨⟨⟨⟨⟨⟨⟨⟨⟨⟨⟨⟨⟨⟨m_a, m_b⟩, m_c⟩, m_u⟩, m_i⟩, m_na⟩, m_nb⟩, m_nu⟩, m_ni⟩, m_back⟩, m_bc⟩, m_left⟩, m_ac⟩, m_right⟩, m_abs⟩, m_d⟩, m_anb⟩ := hx
    have z_abs := E_abs.out x (by assumption) (by first | assumption | exact fun h => (by cases h))
    have z_i := E_i.out x (by assumption) (by first | assumption | exact fun h => (by cases h))
    try simp only [Bool.or_false] at z_abs z_i ⊢
    try simp only [evT_nil] at z_abs z_i
    try simp only [Bool.or_false] at z_abs z_i
    try simp only [evT_not] at z_abs z_i ⊢
    simp only [z_abs, z_i]
    all_goals (cases evT g0 t0 x <;> cases evT g1 t1 x <;> cases evT g2 t2 x <;> rfl))
  have q_anb : SetV w21 5 v_anb (g0 && !g1) t_d := k_d.same k_anb (t0 ++ t1 ++ t2 ++ t_u ++ t_i ++ t_na ++ t_nb ++ t_nu ++ t_ni ++ t_back ++ t_bc ++ t_left ++ t_ac ++ t_right ++ t_abs ++ t_d ++ t_anb) (fun x hx _ _ => by
    simp only [List.mem_append, not_or] at hx
    obtain ⟨⟨⟨⟨⟨⟨⟨⟨⟨⟨⟨⟨⟨⟨⟨⟨m_a, m_b⟩, m_c⟩, m_u⟩, m_i⟩, m_na⟩, m_nb⟩, m_nu⟩, m_ni⟩, m_back⟩, m_bc⟩, m_left⟩, m_ac⟩, m_right⟩, m_abs⟩, m_d⟩, m_anb⟩ := hx
    have z_d := E_d.out x (by assumption) (by first | assumption | exact fun h => (by cases h))
    have z_anb := E_anb.out x (by assumption) (by first | assumption | exact fun h => (by cases h))
    have z_nb := E_nb.out x (by assumption) (by first | assumption | exact fun h => (by cases h))
    try simp only [Bool.or_false] at z_d z_anb z_nb ⊢
    try simp only [evT_nil] at z_d z_anb z_nb
    try simp only [Bool.or_false] at z_d z_anb z_nb
    try simp only [evT_not] at z_d z_anb z_nb ⊢
    simp only [z_d, z_anb, z_nb]
    all_goals (cases evT g0 t0 x <;> cases evT g1 t1 x <;> cases evT g2 t2 x <;> rfl))
  clear E_u l_u E_i l_i E_na l_na E_nb l_nb E_nu l_nu E_ni l_ni E_back l_back E_bc l_bc E_left l_left E_ac l_ac E_right l_right E_abs l_abs E_d l_d E_anb l_anb hl0 hl1 hl2 k1 k2 k_u k_i k_na k_nb k_ni k_back k_bc k_ac k_right k_abs k_anb
  go_wp2_with fail
  refine (known6_any _).mono ?_
  rintro e w22 ⟨rfl, hb⟩
  replace k_nu := k_nu.below hb
  replace q_ni := q_ni.below hb
  replace k0 := k0.below hb
  replace q_back := q_back.below hb
  replace k_left := k_left.below hb
  replace q_right := q_right.below hb
  replace q_abs := q_abs.below hb
  replace k_d := k_d.below hb
  replace q_anb := q_anb.below hb
  replace H0 := H0.trans (hb.mono H0.size)
  clear hb
  go_wp2_with fail
  refine (sameall_v k_nu.1 q_ni.1).mono ?_
  rintro e w23 ⟨rfl, hb⟩
  replace k_nu := k_nu.below hb
  replace q_ni := q_ni.below hb
  replace k0 := k0.below hb
  replace q_back := q_back.below hb
  replace k_left := k_left.below hb
  replace q_right := q_right.below hb
  replace q_abs := q_abs.below hb
  replace k_d := k_d.below hb
  replace q_anb := q_anb.below hb
  replace H0 := H0.trans (hb.mono H0.size)
  clear hb
  go_wp2_with fail
  refine (sameall_v q_back.1 k0.1).mono ?_
  rintro e w24 ⟨rfl, hb⟩
  replace k_nu := k_nu.below hb
  replace q_ni := q_ni.below hb
  replace k0 := k0.below hb
  replace q_back := q_back.below hb
  replace k_left := k_left.below hb
  replace q_right := q_right.below hb
  replace q_abs := q_abs.below hb
  replace k_d := k_d.below hb
  replace q_anb := q_anb.below hb
  replace H0 := H0.trans (hb.mono H0.size)
  clear hb
  go_wp2_with fail
  refine (sameall_v k_left.1 q_right.1).mono ?_
  rintro e w25 ⟨rfl, hb⟩
  replace k_nu := k_nu.below hb
  replace q_ni := q_ni.below hb
  replace k0 := k0.below hb
  replace q_back := q_back.below hb
  replace k_left := k_left.below hb
  replace q_right := q_right.below hb
  replace q_abs := q_abs.below hb
  replace k_d := k_d.below hb
  replace q_anb := q_anb.below hb
  replace H0 := H0.trans (hb.mono H0.size)
  clear hb
  go_wp2_with fail
  refine (sameall_v q_abs.1 k0.1).mono ?_
  rintro e w26 ⟨rfl, hb⟩
  replace k_nu := k_nu.below hb
  replace q_ni := q_ni.below hb
  replace k0 := k0.below hb
  replace q_back := q_back.below hb
  replace k_left := k_left.below hb
  replace q_right := q_right.below hb
  replace q_abs := q_abs.below hb
  replace k_d := k_d.below hb
  replace q_anb := q_anb.below hb
  replace H0 := H0.trans (hb.mono H0.size)
  clear hb
  go_wp2_with fail
  refine (sameall_v k_d.1 q_anb.1).mono ?_
  rintro e w27 ⟨rfl, hb⟩
  replace k_nu := k_nu.below hb
  replace q_ni := q_ni.below hb
  replace k0 := k0.below hb
  replace q_back := q_back.below hb
  replace k_left := k_left.below hb
  replace q_right := q_right.below hb
  replace q_abs := q_abs.below hb
  replace k_d := k_d.below hb
  replace q_anb := q_anb.below hb
  replace H0 := H0.trans (hb.mono H0.size)
  clear hb
  go_wp2_with fail
  go_returns
  exact ⟨rfl, H0⟩
end
end Go.Proofs.YtfdlkbbepkghmaaGreatDoor
