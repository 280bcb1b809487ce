/-
  Probes.
-/
import Derived.Test.YtpgkkkodniiilaaGreatDoorWSq
import Derived.Test.YtpgkkkodniiilaaGreatDoorWPP
import Derived.IntWalk
import Derived.Deep.Cut
namespace Go.Proofs.YtpgkkkodniiilaaGreatDoor
open List (getElem_toArray getElem_cons_succ getElem_cons_zero setIfInBounds_toArray set_cons_zero set_cons_succ)
open Go.RowKit
section
variable {f0 h0 f1 h1 f2 h2 f3 h3 f4 h4 f5 h5 f6 h6 f7 h7 f8 h8 f9 h9 f10 h10 f11 h11 : Bool} {A0 A1 A2 A9 D0 D1 D2 : Option Addr} {n0 n1 n2 c0 c1 c2 c9 m0 m1 m2 e0 e1 e2 : Nat} {s0 s1 s2 : Bool} {q0 q1 q2 q3 q4 q5 q6 q7 : Rat} {z0 z1 z2 z3 z4 z5 z6 z7 z8 z9 z10 z11 : Int} {L L0 L1 x y : Nat} {k : Int} {w : World}
variable {o0 o1 o2 o3 : Option Rat} {l l' : List Sp}
set_option maxRecDepth 100000 in
set_option maxHeartbeats 4000000 in
theorem probes_v {v : Value} {q0 : Rat} {qs : List Rat} (hQ : QS w L v (q0 :: qs)) (hln : (q0 :: qs).length ≤ 1000) (hL : L ≤ 40) :
    Calls Tryz.prog 66 #[v] w fun e w' => ∃ y, e = .returned y ∧ QS w' (2 * max L 2 + 3) y (probesT (q0 :: qs)) ∧ Below w.heap.size w w' := by
  obtain ⟨A, c, e1, hc1, hc2⟩ := hQ.form
  subst e1
  unfold maxLen at hc2
  obtain ⟨n, hn⟩ : ∃ n, (q0 :: qs).length = n := ⟨_, rfl⟩
  have hnp : 0 < n := by rw [← hn]; exact Nat.succ_pos _
  have HN := Lib.hid hn
  rw [hn] at hQ hc1 hln ⊢
  clear hn
  have HQ : Hid (QS w L (.slice A n c) (q0 :: qs)) := Lib.hid hQ
  obtain ⟨g, o, s0, A0, n0, c0, D0, m0, e0, rfl, p0, p1, p2, k0⟩ := hQ.head
  clear hQ
  have en : (((n : Nat) : Int) == 0) = false := by rw [beq_eq_false_iff_ne]; omega
  have en1 : decide ((0 : Int) < (n : Int)) = true := decide_eq_true (by omega)
  go_enter Tryz.func66, Tryz.ntmps66
  go_wp2_with fail
  have H0 := Below.refl w.heap.size w
  have hD := drawn_below w
  replace k0 := k0.below hD
  replace p0 := p0.below hD
  replace p1 := p1.below hD
  replace p2 := p2.below hD
  replace H0 := H0.trans (hD.mono H0.size)
  clear hD
  refine wp_region_noPanic ?_
  refine wp_region_held_drew (S := (fun V => V.cell? ⟨g, o, none⟩ = some (.bool s0) ∧ V.cell? ⟨g, o + 1, none⟩ = some (.slice A0 n0 c0) ∧ V.cell? ⟨g, o + 2, none⟩ = some (.slice D0 m0 e0))) (by kernel_rfl) ⟨p0.eq, p1.eq, p2.eq⟩ (fun hHeld => ?_)
  generalize w.drew = v0 at H0 hHeld k0 p0 p1 p2 ⊢
  refine todo [0, 1, 2] ?_
  iterate 3
    refine tkT ?_ rfl (by kernel_rfl) (fun _ _ _ h => h) (by rfl) (by assumption) ?_ ?_
    rotate_left
    · (intro w hSw; (try dsimp only at hSw); go_simp; (try with_reducible rfl))
    (try simp only [getElem_toArray, getElem_cons_succ, getElem_cons_zero, Act.put, setIfInBounds_toArray, set_cons_zero, set_cons_succ])
  refine tdone ?_
  refine rd1 3 (by kernel_rfl) rfl (fun K hK => ?_)
  go_simp
  go_at_call 42
  refine (nof_v 1 (by decide) (by decide) _).mono ?_
  rintro e w1 ⟨s1, A1, n1, c1, D1, m1, e1, rfl, k1, hb⟩
  replace k0 := k0.below hb
  replace p0 := p0.below hb
  replace p1 := p1.below hb
  replace p2 := p2.below hb
  replace H0 := H0.trans (hb.mono H0.size)
  clear hb
  go_wp2_with fail
  refine hK.out _ _ ⟨p0.eq, p1.eq, p2.eq⟩ (fun hHeld => ?_)
  clear hK K
  (try simp only [getElem_toArray, getElem_cons_succ, getElem_cons_zero, Act.put, setIfInBounds_toArray, set_cons_zero, set_cons_succ])
  refine rd1 4 (by kernel_rfl) rfl (fun K hK => ?_)
  go_simp
  go_at_call 82
  refine (nqsub_v k0 k1 (by omega) (by decide)).mono ?_
  rintro e w2 ⟨s2, A2, n2, c2, D2, m2, e2, rfl, k2, hb⟩
  replace k0 := k0.below hb
  replace p0 := p0.below hb
  replace p1 := p1.below hb
  replace p2 := p2.below hb
  replace k1 := k1.below hb
  replace H0 := H0.trans (hb.mono H0.size)
  clear hb
  clear k1
  go_wp2_with fail
  refine hK.out _ _ ⟨p0.eq, p1.eq, p2.eq⟩ (fun hHeld => ?_)
  clear hK K
  (try simp only [getElem_toArray, getElem_cons_succ, getElem_cons_zero, Act.put, setIfInBounds_toArray, set_cons_zero, set_cons_succ])
  refine rd1 5 (by kernel_rfl) rfl (fun K hK => ?_)
  go_simp
  obtain ⟨W3, hV, bL, hb9, szW3⟩ := boxes1 w2 #[.bool s2, .slice A2 n2 c2, .slice D2 m2 e2] 37
  rw [hV]
  clear hV
  have hgbL : w.heap.size ≤ w2.heap.size := H0.size
  replace k0 := k0.below hb9
  replace p0 := p0.below hb9
  replace p1 := p1.below hb9
  replace p2 := p2.below hb9
  replace k2 := k2.below hb9
  replace H0 := H0.trans (hb9.mono H0.size)
  clear hb9
  refine hK.out _ _ ⟨p0.eq, p1.eq, p2.eq⟩ (fun hHeld => ?_)
  clear hK K
  (try simp only [getElem_toArray, getElem_cons_succ, getElem_cons_zero, Act.put, setIfInBounds_toArray, set_cons_zero, set_cons_succ])
  refine tk 6 ?_ rfl (by kernel_rfl) (fun _ _ _ h => h) (by rfl) (by assumption) ?_ ?_
  rotate_left
  · (intro w hSw; (try dsimp only at hSw); go_simp; (try with_reducible rfl))
  (try simp only [getElem_toArray, getElem_cons_succ, getElem_cons_zero, Act.put, setIfInBounds_toArray, set_cons_zero, set_cons_succ])
  refine wpAnyH_done (by kernel_rfl) ?_ _
  refine NoPanic.normal ?_
  have hown : OwnE W3 w.heap.size 37 3 (.slice (some ⟨w2.heap.size, 0, none⟩) 1 1) [[.bool s2, .slice A2 n2 c2, .slice D2 m2 e2]] := Box.ownl (cs := [.bool s2, .slice A2 n2 c2, .slice D2 m2 e2]) bL rfl (by omega) (by simp [notInt])
  have hall : QL W3 (2 * max L 2 + 3) [[.bool s2, .slice A2 n2 c2, .slice D2 m2 e2]] ((probesT (q0 :: qs)).take (0 + 1)) := ⟨⟨_, _, _, _, _, _, _, rfl, k2.more (by omega)⟩, trivial⟩
  have H9 := H0
  clear H0 bL k2 k0 p0 p1 p2
  go_wp2_with fail
  go_loopw [3, 4] (fun t3 t4 wr => ∃ (j : Nat) (A9 : Option Addr) (c9 : Nat) (css : List (List Value)), t4 = .int .i64 ((j : Int) + 1) ∧ j + 1 ≤ n ∧ t3 = .slice A9 css.length c9 ∧ OwnE wr w.heap.size 37 3 (.slice A9 css.length c9) css ∧ QL wr (2 * max L 2 + 3) css ((probesT (q0 :: qs)).take (j + 1)) ∧ Below w.heap.size w wr) (fun _ t4 _ => n + 1 - (intOf t4).toNat)
  case atStart => exact ⟨0, _, _, _, rfl, by omega, rfl, hown, hall, H9⟩
  case round =>
    clear hown hall H9
    obtain ⟨j, A9, c9, css, rfl, hj, rfl, hown, hall, H0⟩ := hrel
    have hcl : css.length ≤ 10000 := by have h1 := All2.len hall; have := List.length_take_le (j + 1) (probesT (q0 :: qs)); omega
    by_cases hlt : j + 1 < n
    · obtain ⟨qa, hqa⟩ : ∃ s, (q0 :: qs)[j]? = some s := ⟨_, List.getElem?_eq_getElem (by have := HN.out; omega)⟩
      obtain ⟨qb, hqb⟩ : ∃ s, (q0 :: qs)[j + 1]? = some s := ⟨_, List.getElem?_eq_getElem (by have := HN.out; omega)⟩
      have HP := Lib.hid (probes_get hqa hqb)
      obtain ⟨g0, o0, s0, A0, n0, c0, D0, m0, e0, ea, cc0, cc1, cc2, k0⟩ := HQ.out.elem hqa
      injection ea with ea
      injection ea with ea1 ea2
      subst ea1 ea2
      have bp0 : CellF w _ _ := cc0
      have bp1 : CellF w _ _ := cc1
      have bp2 : CellF w _ _ := cc2
      have p0 := bp0.below H0
      have p1 := bp1.below H0
      have p2 := bp2.below H0
      clear cc0 cc1 cc2
      replace k0 := k0.below H0
      obtain ⟨g1, o1, s1, A1, n1, c1, D1, m1, e1, ea, cc0, cc1, cc2, k1⟩ := HQ.out.elem hqb
      injection ea with ea
      injection ea with ea1 ea2
      subst ea1 ea2
      have br0 : CellF w _ _ := cc0
      have br1 : CellF w _ _ := cc1
      have br2 : CellF w _ _ := cc2
      have r0 := br0.below H0
      have r1 := br1.below H0
      have r2 := br2.below H0
      clear cc0 cc1 cc2
      replace k1 := k1.below H0
      clear hqa hqb
      have hb0 : j < n := by omega
      have hb1 : (0 : Int) ≤ (j : Int) + 1 := by omega
      have hb2 : (j : Int) + 1 < (n : Int) := by omega
      have hw2 : ((j : Int) + 1).toNat = j + 1 := by omega
      clear hlt
      have el0 : decide ((j : Int) + 1 < (n : Int)) = true := decide_eq_true hb2
      have hw9 : IntKind.i64.wrap ((j : Int) + 1 - 1) = (j : Int) := by rw [IntWalk.i64_in _ (by omega)]; omega
      have hwj : IntKind.i64.wrap (j : Int) = (j : Int) := IntWalk.i64_in _ (by omega)
      go_wp2_with fail
      have hD := drawn_below wr
      replace hall := hall.below hD
      replace hown := hown.below hD
      replace k0 := k0.below hD
      replace k1 := k1.below hD
      replace p0 := p0.below hD
      replace p1 := p1.below hD
      replace p2 := p2.below hD
      replace r0 := r0.below hD
      replace r1 := r1.below hD
      replace r2 := r2.below hD
      replace H0 := H0.trans (hD.mono H0.size)
      clear hD
      refine wp_region_noPanic ?_
      refine wp_region_held_drew (S := (fun V => V.cell? ⟨g, o + j * 3, none⟩ = some (.bool s0) ∧ V.cell? ⟨g, o + j * 3 + 1, none⟩ = some (.slice A0 n0 c0) ∧ V.cell? ⟨g, o + j * 3 + 2, none⟩ = some (.slice D0 m0 e0) ∧ V.cell? ⟨g, o + (j + 1) * 3, none⟩ = some (.bool s1) ∧ V.cell? ⟨g, o + (j + 1) * 3 + 1, none⟩ = some (.slice A1 n1 c1) ∧ V.cell? ⟨g, o + (j + 1) * 3 + 2, none⟩ = some (.slice D1 m1 e1))) (by kernel_rfl) ⟨p0.eq, p1.eq, p2.eq, r0.eq, r1.eq, r2.eq⟩ (fun hHeld => ?_)
      generalize wr.drew = v200 at H0 hHeld hall hown k0 k1 p0 p1 p2 r0 r1 r2 ⊢
      refine todo [0, 1, 2, 3, 4, 5, 6, 7, 8, 9] ?_
      iterate 10
        refine tkT ?_ rfl (by kernel_rfl) (fun _ _ _ h => h) (by rfl) (by assumption) ?_ ?_
        rotate_left
        · (intro w hSw; (try dsimp only at hSw); go_simp; (try with_reducible rfl))
        (try simp only [getElem_toArray, getElem_cons_succ, getElem_cons_zero, Act.put, setIfInBounds_toArray, set_cons_zero, set_cons_succ])
      refine tdone ?_
      refine rd1 10 (by kernel_rfl) rfl (fun K hK => ?_)
      go_simp
      go_at_call 85
      refine (nmid_v k0 k1 (by omega) (by omega)).mono ?_
      rintro e w201 ⟨s2, A2, n2, c2, D2, m2, e2, rfl, k2, hb⟩
      replace hall := hall.below hb
      replace hown := hown.below hb
      replace k0 := k0.below hb
      replace k1 := k1.below hb
      replace p0 := p0.below hb
      replace p1 := p1.below hb
      replace p2 := p2.below hb
      replace r0 := r0.below hb
      replace r1 := r1.below hb
      replace r2 := r2.below hb
      replace H0 := H0.trans (hb.mono H0.size)
      clear hb
      clear k0
      clear k1
      go_wp2_with fail
      refine hK.out _ _ ⟨p0.eq, p1.eq, p2.eq, r0.eq, r1.eq, r2.eq⟩ (fun hHeld => ?_)
      clear hK K
      (try simp only [getElem_toArray, getElem_cons_succ, getElem_cons_zero, Act.put, setIfInBounds_toArray, set_cons_zero, set_cons_succ])
      refine rd1 11 (by kernel_rfl) rfl (fun K hK => ?_)
      go_simp
      obtain ⟨W202, hV, bL, hb9, szW202⟩ := boxes1 w201 #[.bool s2, .slice A2 n2 c2, .slice D2 m2 e2] 37
      rw [hV]
      clear hV
      have hgbL : w.heap.size ≤ w201.heap.size := H0.size
      replace hall := hall.below hb9
      replace hown := hown.below hb9
      replace p0 := p0.below hb9
      replace p1 := p1.below hb9
      replace p2 := p2.below hb9
      replace r0 := r0.below hb9
      replace r1 := r1.below hb9
      replace r2 := r2.below hb9
      replace k2 := k2.below hb9
      replace H0 := H0.trans (hb9.mono H0.size)
      clear hb9
      refine hK.out _ _ ⟨p0.eq, p1.eq, p2.eq, r0.eq, r1.eq, r2.eq⟩ (fun hHeld => ?_)
      clear hK K
      (try simp only [getElem_toArray, getElem_cons_succ, getElem_cons_zero, Act.put, setIfInBounds_toArray, set_cons_zero, set_cons_succ])
      refine rd1 12 (by kernel_rfl) rfl (fun K hK => ?_)
      rw [if_pos (by rfl)]
      have hq1 : ([.bool s2, .slice A2 n2 c2, .slice D2 m2 e2] : List Value).all (fun u => u.oneCell' && notInt u) = true := by simp [notInt, Value.oneCell']
      have lB1 : w.heap.size ≤ W202.heap.size := H0.size
      refine op_append_rows (v := .slice A9 css.length c9) (css := css) (css' := [[.bool s2, .slice A2 n2 c2, .slice D2 m2 e2]]) _ _ rfl elem_q w.heap.size rfl hown rfl (Box.readl (cs := [.bool s2, .slice A2 n2 c2, .slice D2 m2 e2]) bL rfl) (lit_all hq1) (by simp; omega) lB1 ?_
      intro v1 w203 hownN hg1
      replace hall := hall.own hown hg1
      replace k2 := k2.own hown hg1
      replace H0 := H0.trans (hown.trod hg1 lB1)
      refine hK.out _ _ ⟨(bp0.below H0).eq, (bp1.below H0).eq, (bp2.below H0).eq, (br0.below H0).eq, (br1.below H0).eq, (br2.below H0).eq⟩ (fun hHeld => ?_)
      clear hK K
      (try simp only [getElem_toArray, getElem_cons_succ, getElem_cons_zero, Act.put, setIfInBounds_toArray, set_cons_zero, set_cons_succ])
      clear hown p0 p1 p2 r0 r1 r2 bL hg1 lB1 hq1
      refine tk 13 ?_ rfl (by kernel_rfl) (fun _ _ _ h => h) (by rfl) (by assumption) ?_ ?_
      rotate_left
      · (intro w hSw; (try dsimp only at hSw); go_simp; (try with_reducible rfl))
      (try simp only [getElem_toArray, getElem_cons_succ, getElem_cons_zero, Act.put, setIfInBounds_toArray, set_cons_zero, set_cons_succ])
      refine wpAnyH_done (by kernel_rfl) ?_ _
      refine NoPanic.normal ?_
      have hall1 : QL w203 (2 * max L 2 + 3) (css ++ [[.bool s2, .slice A2 n2 c2, .slice D2 m2 e2]]) ((probesT (q0 :: qs)).take (j + 1 + 1)) := by rw [HP.out]; exact All2.snoc hall ⟨_, _, _, _, _, _, _, rfl, k2.more (by omega)⟩
      generalize css ++ [[.bool s2, .slice A2 n2 c2, .slice D2 m2 e2]] = cs1_ at hownN hall1
      obtain ⟨A1_, c1_, rfl, hx1, hx2⟩ := hownN.form
      clear hall k2 hcl hx1 hx2
      go_wp2_with fail
      go_roundw
      case rel => exact ⟨j + 1, _, _, _, by go_num, by omega, rfl, hownN, hall1, H0⟩
      case measure => simp [intOf]; omega
    · obtain rfl : n = j + 1 := by omega
      have hjl : qs.length = j := by have := HN.out; simp at this; omega
      obtain ⟨qa, hqa⟩ : ∃ s, (q0 :: qs)[j]? = some s := ⟨_, List.getElem?_eq_getElem (by simp; omega)⟩
      have HP : Hid (probesT (q0 :: qs) = (probesT (q0 :: qs)).take (j + 1) ++ [qa + 1]) := Lib.hid (by have := probes_last (c := q0) (cs := qs) (a := qa) (by rw [hjl]; exact hqa); rwa [hjl] at this)
      obtain ⟨g0, o0, s0, A0, n0, c0, D0, m0, e0, ea, cc0, cc1, cc2, k0⟩ := HQ.out.elem hqa
      injection ea with ea
      injection ea with ea1 ea2
      subst ea1 ea2
      have bp0 : CellF w _ _ := cc0
      have bp1 : CellF w _ _ := cc1
      have bp2 : CellF w _ _ := cc2
      have p0 := bp0.below H0
      have p1 := bp1.below H0
      have p2 := bp2.below H0
      clear cc0 cc1 cc2 hqa hlt
      replace k0 := k0.below H0
      have hb0 : j < j + 1 := by omega
      have hb3 : (j : Int) < (j : Int) + 1 := by omega
      have el0 : decide ((j : Int) + 1 < ((j + 1 : Nat) : Int)) = false := by rw [decide_eq_false_iff_not]; omega
      have hw9 : IntKind.i64.wrap (((j + 1 : Nat) : Int) - 1) = (j : Int) := by rw [IntWalk.i64_in _ (by omega)]; omega
      have hw8 : IntKind.i64.wrap ((j : Int) + 1 - 1) = (j : Int) := by rw [IntWalk.i64_in _ (by omega)]; omega
      have hwj : IntKind.i64.wrap (j : Int) = (j : Int) := IntWalk.i64_in _ (by omega)
      go_wp2_with fail
      have hD := drawn_below wr
      replace hall := hall.below hD
      replace hown := hown.below hD
      replace k0 := k0.below hD
      replace p0 := p0.below hD
      replace p1 := p1.below hD
      replace p2 := p2.below hD
      replace H0 := H0.trans (hD.mono H0.size)
      clear hD
      refine wp_region_noPanic ?_
      refine wp_region_held_drew (S := (fun V => V.cell? ⟨g, o + j * 3, none⟩ = some (.bool s0) ∧ V.cell? ⟨g, o + j * 3 + 1, none⟩ = some (.slice A0 n0 c0) ∧ V.cell? ⟨g, o + j * 3 + 2, none⟩ = some (.slice D0 m0 e0))) (by kernel_rfl) ⟨p0.eq, p1.eq, p2.eq⟩ (fun hHeld => ?_)
      generalize wr.drew = v400 at H0 hHeld hall hown k0 p0 p1 p2 ⊢
      refine todo [0, 1, 2, 3, 4, 5, 6] ?_
      iterate 7
        refine tkT ?_ rfl (by kernel_rfl) (fun _ _ _ h => h) (by rfl) (by assumption) ?_ ?_
        rotate_left
        · (intro w hSw; (try dsimp only at hSw); go_simp; (try with_reducible rfl))
        (try simp only [getElem_toArray, getElem_cons_succ, getElem_cons_zero, Act.put, setIfInBounds_toArray, set_cons_zero, set_cons_succ])
      refine tdone ?_
      refine rd1 7 (by kernel_rfl) rfl (fun K hK => ?_)
      go_simp
      go_at_call 42
      refine (nof_v 1 (by decide) (by decide) _).mono ?_
      rintro e w401 ⟨s1, A1, n1, c1, D1, m1, e1, rfl, k1, hb⟩
      replace hall := hall.below hb
      replace hown := hown.below hb
      replace k0 := k0.below hb
      replace p0 := p0.below hb
      replace p1 := p1.below hb
      replace p2 := p2.below hb
      replace H0 := H0.trans (hb.mono H0.size)
      clear hb
      go_wp2_with fail
      refine hK.out _ _ ⟨p0.eq, p1.eq, p2.eq⟩ (fun hHeld => ?_)
      clear hK K
      (try simp only [getElem_toArray, getElem_cons_succ, getElem_cons_zero, Act.put, setIfInBounds_toArray, set_cons_zero, set_cons_succ])
      refine rd1 8 (by kernel_rfl) rfl (fun K hK => ?_)
      go_simp
      go_at_call 32
      refine (nplus_v k0 k1 (by omega) (by decide)).mono ?_
      rintro e w402 ⟨s2, A2, n2, c2, D2, m2, e2, rfl, k2, hb⟩
      replace hall := hall.below hb
      replace hown := hown.below hb
      replace k0 := k0.below hb
      replace p0 := p0.below hb
      replace p1 := p1.below hb
      replace p2 := p2.below hb
      replace k1 := k1.below hb
      replace H0 := H0.trans (hb.mono H0.size)
      clear hb
      clear k0
      clear k1
      go_wp2_with fail
      refine hK.out _ _ ⟨p0.eq, p1.eq, p2.eq⟩ (fun hHeld => ?_)
      clear hK K
      (try simp only [getElem_toArray, getElem_cons_succ, getElem_cons_zero, Act.put, setIfInBounds_toArray, set_cons_zero, set_cons_succ])
      refine rd1 9 (by kernel_rfl) rfl (fun K hK => ?_)
      go_simp
      obtain ⟨W403, hV, bL, hb9, szW403⟩ := boxes1 w402 #[.bool s2, .slice A2 n2 c2, .slice D2 m2 e2] 37
      rw [hV]
      clear hV
      have hgbL : w.heap.size ≤ w402.heap.size := H0.size
      replace hall := hall.below hb9
      replace hown := hown.below hb9
      replace p0 := p0.below hb9
      replace p1 := p1.below hb9
      replace p2 := p2.below hb9
      replace k2 := k2.below hb9
      replace H0 := H0.trans (hb9.mono H0.size)
      clear hb9
      refine hK.out _ _ ⟨p0.eq, p1.eq, p2.eq⟩ (fun hHeld => ?_)
      clear hK K
      (try simp only [getElem_toArray, getElem_cons_succ, getElem_cons_zero, Act.put, setIfInBounds_toArray, set_cons_zero, set_cons_succ])
      refine rd1 10 (by kernel_rfl) rfl (fun K hK => ?_)
      rw [if_pos (by rfl)]
      have hq1 : ([.bool s2, .slice A2 n2 c2, .slice D2 m2 e2] : List Value).all (fun u => u.oneCell' && notInt u) = true := by simp [notInt, Value.oneCell']
      have lB1 : w.heap.size ≤ W403.heap.size := H0.size
      refine op_append_rows (v := .slice A9 css.length c9) (css := css) (css' := [[.bool s2, .slice A2 n2 c2, .slice D2 m2 e2]]) _ _ rfl elem_q w.heap.size rfl hown rfl (Box.readl (cs := [.bool s2, .slice A2 n2 c2, .slice D2 m2 e2]) bL rfl) (lit_all hq1) (by simp; omega) lB1 ?_
      intro v1 w404 hownN hg1
      replace hall := hall.own hown hg1
      replace k2 := k2.own hown hg1
      replace H0 := H0.trans (hown.trod hg1 lB1)
      refine hK.out _ _ ⟨(bp0.below H0).eq, (bp1.below H0).eq, (bp2.below H0).eq⟩ (fun hHeld => ?_)
      clear hK K
      (try simp only [getElem_toArray, getElem_cons_succ, getElem_cons_zero, Act.put, setIfInBounds_toArray, set_cons_zero, set_cons_succ])
      clear hown p0 p1 p2 bL hg1 lB1 hq1
      refine tk 11 ?_ rfl (by kernel_rfl) (fun _ _ _ h => h) (by rfl) (by assumption) ?_ ?_
      rotate_left
      · (intro w hSw; (try dsimp only at hSw); go_simp; (try with_reducible rfl))
      (try simp only [getElem_toArray, getElem_cons_succ, getElem_cons_zero, Act.put, setIfInBounds_toArray, set_cons_zero, set_cons_succ])
      refine wpAnyH_done (by kernel_rfl) ?_ _
      refine NoPanic.normal ?_
      have hall1 : QL w404 (2 * max L 2 + 3) (css ++ [[.bool s2, .slice A2 n2 c2, .slice D2 m2 e2]]) (probesT (q0 :: qs)) := by rw [HP.out]; exact All2.snoc hall ⟨_, _, _, _, _, _, _, rfl, k2.more (by omega)⟩
      generalize css ++ [[.bool s2, .slice A2 n2 c2, .slice D2 m2 e2]] = cs1_ at hownN hall1
      clear hall k2 hcl
      go_wp2_with fail
      go_ret
      exact ⟨_, rfl, ⟨_, hownN.read, hall1⟩, H0⟩
end
end Go.Proofs.YtpgkkkodniiilaaGreatDoor
