/-
  RingOrders: for all lists of numbers the law returns true.
-/
import Derived.Test.YthmmnmajkeoaaabGreatDoorOLaidG
import Derived.Test.YthmmnmajkeoaaabGreatDoorORI
import Derived.IntWalk
import Derived.Deep.Cut
namespace Go.Proofs.YthmmnmajkeoaaabGreatDoor
open Go.RowKit
section
variable {w : World}
set_option maxRecDepth 100000 in
set_option maxHeartbeats 8000000 in
theorem ringorders_any {v : Value} {a2 : Addr} (HI : Ints w v) (hE : SentV w 0 a2) :
    Calls Tryz.prog 3 #[v] w fun e w' => e = .returned (.bool true) ∧ Below w.heap.size w w' := by
  have HE := Lib.hid (fun (W : World) (h : Below w.heap.size w W) => hE.below h)
  clear hE
  go_enter Tryz.func3, Tryz.ntmps3
  go_wp2_with fail
  refine (new_any HI).mono ?_
  rintro e w1 ⟨rfl, hT, H0, hsz⟩
  have hlt : w.heap.size < w1.heap.size := by omega
  clear hsz HI
  obtain ⟨b, hb⟩ : ∃ b, w.heap.size = b := ⟨_, rfl⟩
  have HHB := Lib.hid hb
  rw [hb] at hT hlt ⊢
  clear hb
  have G0 : w1.grownBy w1 (some b) := ⟨rfl, rfl, rfl, Nat.le_refl _, fun _ _ _ => rfl⟩
  go_wp2_with fail
  refine (ring_v hT hlt).mono ?_
  rintro e wq1 ⟨A, c, zs, rfl, hR, hF, hok, hT', hg⟩
  replace hlt := Nat.lt_of_lt_of_le hlt hg.size
  replace G0 := only_trans G0 hg
  clear hT
  have hT := hT'
  clear hT' hg
  go_wp2_with fail
  have HOK := Lib.hid hok
  clear hok
  refine (ring_v hT hlt).mono ?_
  rintro e wq2 ⟨A', c', ys, rfl, hS, hFS, hok, hT', hg⟩
  replace hR := hR.tape hT hg
  replace hF := hF.tape hT hg
  replace hlt := Nat.lt_of_lt_of_le hlt hg.size
  replace G0 := only_trans G0 hg
  clear hT
  have hT := hT'
  clear hT' hg
  go_wp2_with fail
  have HOKS := Lib.hid hok
  clear hok
  refine (next_any 2 (by decide) (by decide) hT).mono ?_
  rintro e wq3 ⟨r0, rfl, hr0, hT', hg⟩
  replace hR := hR.tape hT hg
  replace hF := hF.tape hT hg
  replace hS := hS.tape hT hg
  replace hFS := hFS.tape hT hg
  replace hlt := Nat.lt_of_lt_of_le hlt hg.size
  replace G0 := only_trans G0 hg
  clear hT
  have hT := hT'
  clear hT' hg
  go_upto_if 26 with fail
  refine wp_cut_thn (fun ax wx => ∃ A9 c9 ys, ∃ u7 u16 u17 u18 u19 u20 u21 u22 u23 u24 u25 u26 u27 u28 u29 u30 u31 u32 u33 u34 u35 u36 u37 u38, ax = ⟨#[v, undef, .bool false, .pointer (some ⟨b, 0, none⟩), .slice A zs.length c, .slice A9 ys.length c9, .int .i64 (zs.length : Int), u7, undef, undef, undef, undef, undef, undef, undef, undef, u16, u17, u18, u19, u20, u21, u22, u23, u24, u25, u26, u27, u28, u29, u30, u31, u32, u33, u34, u35, u36, u37, u38, undef, undef, undef, undef, undef, undef, undef, undef, undef, undef, undef, undef, undef, undef, undef, undef, undef, undef, undef, undef, undef, undef, undef, undef, undef, undef, undef, undef, undef, undef, undef, undef, undef, undef, undef, undef, undef, undef, undef, undef, undef, undef, undef, undef, undef, undef, undef, undef, undef, undef, undef, undef, undef, undef], []⟩ ∧ RingOk ys ∧ ReadR wx 6 (.slice A zs.length c) (rowsP zs) ∧ FP wx 8 zs ∧ ReadR wx 6 (.slice A9 ys.length c9) (rowsP ys) ∧ FP wx 8 ys ∧ w1.grownBy wx (some b)) ?rest ?first
  case rest =>
    clear hT hlt G0 hr0 hR hF hS hFS HOKS
    rintro ax wy ⟨A9, c9, ys, u7, u16, u17, u18, u19, u20, u21, u22, u23, u24, u25, u26, u27, u28, u29, u30, u31, u32, u33, u34, u35, u36, u37, u38, rfl, hok, hR, hF, hS, hFS, G0⟩
    replace H0 : Below w.heap.size w wy := H0.grown G0 H0.size (by rintro k hk; injection hk with hk; rw [← hk, HHB.out]; exact Nat.le_refl _)
    have HOKS := Lib.hid hok
    clear hok G0
    have lz : zs.length ≤ 6 := HOK.out.2.1
    have ly : ys.length ≤ 6 := HOKS.out.2.1
    have lz3 : 3 ≤ zs.length := HOK.out.1
    have ly3 : 3 ≤ ys.length := HOKS.out.1
    go_wp2_with fail
    refine (topts_v hR hF (by omega) (by decide)).mono ?_
    rintro e wq4 ⟨A1, c1, xs, rfl, hX, hFX, hpx, hb⟩
    replace hR := hR.below hb
    replace hF := hF.below hb
    replace hS := hS.below hb
    replace hFS := hFS.below hb
    replace H0 := H0.trans (hb.mono H0.size)
    clear hb
    have HPX := Lib.hid hpx
    clear hpx
    go_wp2_with fail
    refine (topts_v hS hFS (by omega) (by decide)).mono ?_
    rintro e wq5 ⟨A2, c2, us, rfl, hU, hFU, hpu, hb⟩
    replace hR := hR.below hb
    replace hF := hF.below hb
    replace hS := hS.below hb
    replace hFS := hFS.below hb
    replace hX := hX.below hb
    replace hFX := hFX.below hb
    replace H0 := H0.trans (hb.mono H0.size)
    clear hb
    have HPU := Lib.hid hpu
    clear hpu
    go_wp2_with fail
    have lx : xs.length ≤ 6 := by rw [len_pt HPX.out]; exact lz
    have lu : us.length ≤ 6 := by rw [len_pt HPU.out]; exact ly
    have lx3 : 3 ≤ xs.length := by rw [len_pt HPX.out]; exact lz3
    have lu3 : 3 ≤ us.length := by rw [len_pt HPU.out]; exact ly3
    have HX1 : Hid (stopsB xs = false) := Lib.hid (by rw [stops_same HPX.out]; exact HOK.out.2.2.1)
    have HX2 : Hid (opensB xs = true) := Lib.hid (by rw [opens_same HPX.out]; exact HOK.out.2.2.2)
    have HU1 : Hid (stopsB us = false) := Lib.hid (by rw [stops_same HPU.out]; exact HOKS.out.2.2.1)
    have HU2 : Hid (opensB us = true) := Lib.hid (by rw [opens_same HPU.out]; exact HOKS.out.2.2.2)
    refine (canon_v hX hFX (by omega) (by omega) (by decide) HX1.out HX2.out).mono ?_
    rintro e wq6 ⟨m1, A3, c3, ps, rfl, hm1, hq1, hP, hFP, hpp, hb⟩
    replace hR := hR.below hb
    replace hF := hF.below hb
    replace hS := hS.below hb
    replace hFS := hFS.below hb
    replace hX := hX.below hb
    replace hFX := hFX.below hb
    replace hU := hU.below hb
    replace hFU := hFU.below hb
    replace H0 := H0.trans (hb.mono H0.size)
    clear hb
    have HM1 := Lib.hid hm1
    have HQ1 := Lib.hid hq1
    have HPP := Lib.hid hpp
    clear hm1 hq1 hpp
    go_wp2_with fail
    refine (canon_v hU hFU (by omega) (by omega) (by decide) HU1.out HU2.out).mono ?_
    rintro e wq7 ⟨m2, A4, c4, qs, rfl, hm2, hq2, hQ, hFQ, hpq, hb⟩
    replace hR := hR.below hb
    replace hF := hF.below hb
    replace hS := hS.below hb
    replace hFS := hFS.below hb
    replace hX := hX.below hb
    replace hFX := hFX.below hb
    replace hU := hU.below hb
    replace hFU := hFU.below hb
    replace hP := hP.below hb
    replace hFP := hFP.below hb
    replace H0 := H0.trans (hb.mono H0.size)
    clear hb
    have HM2 := Lib.hid hm2
    have HQ2 := Lib.hid hq2
    have HPQ := Lib.hid hpq
    clear hm2 hq2 hpq
    go_wp2_with fail
    obtain ⟨kc, hkc⟩ : ∃ k, lexC (zs.map PP.pt) (ys.map PP.pt) = k := ⟨_, rfl⟩
    have HKC := Lib.hid hkc
    clear hkc
    refine (ringcmp_v hX hFX hU hFU (by omega) (by omega) (by decide) HX1.out HX2.out HU1.out HU2.out).mono ?_
    rintro e wq8 ⟨rfl, hb⟩
    replace hR := hR.below hb
    replace hF := hF.below hb
    replace hS := hS.below hb
    replace hFS := hFS.below hb
    replace hX := hX.below hb
    replace hFX := hFX.below hb
    replace hU := hU.below hb
    replace hFU := hFU.below hb
    replace hP := hP.below hb
    replace hFP := hFP.below hb
    replace hQ := hQ.below hb
    replace hFQ := hFQ.below hb
    replace H0 := H0.trans (hb.mono H0.size)
    clear hb
    rw [HPX.out, HPU.out, HKC.out]
    have hkk : (kc == kc) = true := beq_self_eq_true _
    clear hX hFX hU hFU
    go_wp2_with fail
    refine (known9_any (HE.out _ H0)).mono ?_
    rintro e wq9 ⟨rfl, hb⟩
    replace hR := hR.below hb
    replace hF := hF.below hb
    replace hS := hS.below hb
    replace hFS := hFS.below hb
    replace hP := hP.below hb
    replace hFP := hFP.below hb
    replace hQ := hQ.below hb
    replace hFQ := hFQ.below hb
    replace H0 := H0.trans (hb.mono H0.size)
    clear hb
    go_wp2_with fail
    refine (rcanon_v hR hF (by omega) (by omega) (by decide)).mono ?_
    rintro e wq10 ⟨n1, A5, c5, as1, rfl, hn1, hr1, hA, hFA, hpa, hb⟩
    replace hR := hR.below hb
    replace hF := hF.below hb
    replace hS := hS.below hb
    replace hFS := hFS.below hb
    replace hP := hP.below hb
    replace hFP := hFP.below hb
    replace hQ := hQ.below hb
    replace hFQ := hFQ.below hb
    replace H0 := H0.trans (hb.mono H0.size)
    clear hb
    have hl5 : as1.length = zs.length := by rw [len_pt hpa, rotL_len]
    have la : as1.length ≤ 6 := by omega
    have HS1 : Hid (ps.map PP.pt = as1.map PP.pt) := Lib.hid (canon_same HPX.out HM1.out hn1 HQ1.out hr1 HPP.out hpa)
    clear hn1 hr1 hpa hl5
    go_wp2_with fail
    refine (topts_v hA hFA (by omega) (by decide)).mono ?_
    rintro e wq11 ⟨A6, c6, bs1, rfl, hB, hFB, hpb, hb⟩
    replace hR := hR.below hb
    replace hF := hF.below hb
    replace hS := hS.below hb
    replace hFS := hFS.below hb
    replace hP := hP.below hb
    replace hFP := hFP.below hb
    replace hQ := hQ.below hb
    replace hFQ := hFQ.below hb
    replace hA := hA.below hb
    replace hFA := hFA.below hb
    replace H0 := H0.trans (hb.mono H0.size)
    clear hb
    have HPB1 := Lib.hid hpb
    clear hpb
    go_wp2_with fail
    have lp : ps.length ≤ 6 := by rw [len_pt HS1.out]; exact la
    refine (sameps_v hP hFP hB hFB (by rw [HS1.out, HPB1.out]) (by omega)).mono ?_
    rintro e wq12 ⟨rfl, hb⟩
    replace hR := hR.below hb
    replace hF := hF.below hb
    replace hS := hS.below hb
    replace hFS := hFS.below hb
    replace hP := hP.below hb
    replace hFP := hFP.below hb
    replace hQ := hQ.below hb
    replace hFQ := hFQ.below hb
    replace hA := hA.below hb
    replace hFA := hFA.below hb
    replace hB := hB.below hb
    replace hFB := hFB.below hb
    replace H0 := H0.trans (hb.mono H0.size)
    clear hb
    go_wp2_with fail
    clear hA hFA hB hFB hP hFP
    refine (rcanon_v hS hFS (by omega) (by omega) (by decide)).mono ?_
    rintro e wq13 ⟨n2, A7, c7, as2, rfl, hn1, hr1, hA, hFA, hpa, hb⟩
    replace hR := hR.below hb
    replace hF := hF.below hb
    replace hS := hS.below hb
    replace hFS := hFS.below hb
    replace hQ := hQ.below hb
    replace hFQ := hFQ.below hb
    replace H0 := H0.trans (hb.mono H0.size)
    clear hb
    have hl5 : as2.length = ys.length := by rw [len_pt hpa, rotL_len]
    have la2 : as2.length ≤ 6 := by omega
    have HS2 : Hid (qs.map PP.pt = as2.map PP.pt) := Lib.hid (canon_same HPU.out HM2.out hn1 HQ2.out hr1 HPQ.out hpa)
    clear hn1 hr1 hpa hl5
    go_wp2_with fail
    refine (topts_v hA hFA (by omega) (by decide)).mono ?_
    rintro e wq14 ⟨A8, c8, bs2, rfl, hB, hFB, hpb, hb⟩
    replace hR := hR.below hb
    replace hF := hF.below hb
    replace hS := hS.below hb
    replace hFS := hFS.below hb
    replace hQ := hQ.below hb
    replace hFQ := hFQ.below hb
    replace hA := hA.below hb
    replace hFA := hFA.below hb
    replace H0 := H0.trans (hb.mono H0.size)
    clear hb
    have HPB2 := Lib.hid hpb
    clear hpb
    go_wp2_with fail
    have lq : qs.length ≤ 6 := by rw [len_pt HS2.out]; exact la2
    refine (sameps_v hQ hFQ hB hFB (by rw [HS2.out, HPB2.out]) (by omega)).mono ?_
    rintro e wq15 ⟨rfl, hb⟩
    replace hR := hR.below hb
    replace hF := hF.below hb
    replace hS := hS.below hb
    replace hFS := hFS.below hb
    replace hQ := hQ.below hb
    replace hFQ := hFQ.below hb
    replace hA := hA.below hb
    replace hFA := hFA.below hb
    replace hB := hB.below hb
    replace hFB := hFB.below hb
    replace H0 := H0.trans (hb.mono H0.size)
    clear hb
    go_wp2_with fail
    clear hA hFA hB hFB hQ hFQ
    refine (rcompare_v hR hF hS hFS (by omega) (by decide) (by decide)).mono ?_
    rintro e wq16 ⟨rfl, hb⟩
    replace hR := hR.below hb
    replace hF := hF.below hb
    replace hS := hS.below hb
    replace hFS := hFS.below hb
    replace H0 := H0.trans (hb.mono H0.size)
    clear hb
    rw [HKC.out]
    go_wp2_with fail
    go_returns
    exact ⟨rfl, H0⟩
  case first =>
    intro K' HK0
    have HKX := Lib.hid HK0
    clear HK0
    by_cases h0 : r0 = 0
    · subst h0
      have d0 : ((0 : Int) == 0) = true := rfl
      have lz : zs.length ≤ 6 := HOK.out.2.1
      have lz3 : 3 ≤ zs.length := HOK.out.1
      clear hS hFS HOKS
      go_wp2_with fail
      refine (next_any zs.length (by omega) (by omega) hT).mono ?_
      rintro e wq4 ⟨k, rfl, hk, hT', hg⟩
      replace hR := hR.tape hT hg
      replace hF := hF.tape hT hg
      replace hlt := Nat.lt_of_lt_of_le hlt hg.size
      replace G0 := only_trans G0 hg
      clear hT
      have hT := hT'
      clear hT' hg
      obtain ⟨g, o, rfl, e0, _⟩ := pp_elem (i := 0) (x := zs.getD 0 default) hR (get_ok (by omega))
      clear e0
      have hc0 : zs.length ≤ c := by obtain ⟨_, _, _, e1, h1, _⟩ := hR; injection e1 with _ e2 e3; rw [rowsP_len] at h1; omega
      have hS1 := part_pp hR (i := k) (j := zs.length) (by omega) (Nat.le_refl _)
      have hS2 := part_pp hR (i := 0) (j := k) (Nat.zero_le _) (by omega)
      rw [List.take_of_length_le (Nat.le_refl _)] at hS1
      simp only [Nat.zero_mul, Nat.add_zero, Nat.sub_zero, List.drop_zero] at hS2
      have hic : k ≤ c := by omega
      have hil : k ≤ zs.length := by omega
      have hci : ¬ c = k := by omega
      have hlm : ∀ (l : List PP), l.length ≤ zs.length → (([] : List (List Value)).length + (rowsP l).length ≤ 200000) := fun l hl => by rw [rowsP_len]; simp; omega
      have hl1 := hlm (zs.drop k) (by rw [List.length_drop]; omega)
      have hl2 : (rowsP (zs.drop k)).length + (rowsP (zs.take k)).length ≤ 200000 := by rw [rowsP_len, rowsP_len, List.length_drop, List.length_take]; omega
      clear hlm
      go_upto_region 6 with fail
      have hD := drawn_below wq4
      replace hR := hR.below hD
      replace hF := hF.below hD
      replace hS1 := hS1.below hD
      replace hS2 := hS2.below hD
      replace hT := hT.keep hD hlt
      replace hlt := Nat.lt_of_lt_of_le hlt hD.size
      replace G0 := only_below G0 hD G0.size
      clear hD
      refine wp_region_noPanic ?_
      refine wp_region_held_drew (S := (fun _ => True)) (by kernel_rfl) trivial (fun hHeld => ?_)
      generalize wq4.drew = v0 at hT hlt G0 hR hF hS1 hS2 ⊢
      refine wpAnyH_take (i := 1) (v := ?_) rfl (by kernel_rfl) (by kernel_rfl) (by kernel_rfl) (fun _ _ _ h => h) (Or.inl ⟨by rfl, ?_⟩) (by assumption) ?_
      rotate_left
      · (intro w hSw; (try dsimp only at hSw); go_simp; (try with_reducible rfl))
      (try simp only [List.getElem_toArray, List.getElem_cons_succ, List.getElem_cons_zero, Act.put, List.setIfInBounds_toArray, List.set_cons_zero, List.set_cons_succ])
      refine wpAnyH_take (i := 2) (v := ?_) rfl (by kernel_rfl) (by kernel_rfl) (by kernel_rfl) (fun _ _ _ h => h) (Or.inl ⟨by rfl, ?_⟩) (by assumption) ?_
      rotate_left
      · (intro w hSw; (try dsimp only at hSw); go_simp; (try with_reducible rfl))
      (try simp only [List.getElem_toArray, List.getElem_cons_succ, List.getElem_cons_zero, Act.put, List.setIfInBounds_toArray, List.set_cons_zero, List.set_cons_succ])
      refine wpAnyH_take (i := 3) (v := ?_) rfl (by kernel_rfl) (by kernel_rfl) (by kernel_rfl) (fun _ _ _ h => h) (Or.inl ⟨by rfl, ?_⟩) (by assumption) ?_
      rotate_left
      · (intro w hSw; (try dsimp only at hSw); go_simp; (try with_reducible rfl))
      (try simp only [List.getElem_toArray, List.getElem_cons_succ, List.getElem_cons_zero, Act.put, List.setIfInBounds_toArray, List.set_cons_zero, List.set_cons_succ])
      refine wpAnyH_take (i := 5) (v := ?_) rfl (by kernel_rfl) (by kernel_rfl) (by kernel_rfl) (fun _ _ _ h => h) (Or.inl ⟨by rfl, ?_⟩) (by assumption) ?_
      rotate_left
      · (intro w hSw; (try dsimp only at hSw); go_simp; (try with_reducible rfl))
      (try simp only [List.getElem_toArray, List.getElem_cons_succ, List.getElem_cons_zero, Act.put, List.setIfInBounds_toArray, List.set_cons_zero, List.set_cons_succ])
      refine wpAnyH_take (i := 6) (v := ?_) rfl (by kernel_rfl) (by kernel_rfl) (by kernel_rfl) (fun _ _ _ h => h) (Or.inl ⟨by rfl, ?_⟩) (by assumption) ?_
      rotate_left
      · (intro w hSw; (try dsimp only at hSw); go_simp; (try with_reducible rfl))
      (try simp only [List.getElem_toArray, List.getElem_cons_succ, List.getElem_cons_zero, Act.put, List.setIfInBounds_toArray, List.set_cons_zero, List.set_cons_succ])
      refine wpAnyH_take (i := 7) (v := ?_) rfl (by kernel_rfl) (by kernel_rfl) (by kernel_rfl) (fun _ _ _ h => h) (Or.inl ⟨by rfl, ?_⟩) (by assumption) ?_
      rotate_left
      · (intro w hSw; (try dsimp only at hSw); go_simp; (try with_reducible rfl))
      (try simp only [List.getElem_toArray, List.getElem_cons_succ, List.getElem_cons_zero, Act.put, List.setIfInBounds_toArray, List.set_cons_zero, List.set_cons_succ])
      refine wpAnyH_ready (rs := [0]) (by kernel_rfl) (by simp) (AllReadyH.cons (o := _) rfl (fun K hK => ?_) AllReadyH.nil)
      go_simp
      have hO := OwnE.empty (e := 51) (k := 6) v0 (Nat.le_refl _)
      have J0 : Below v0.heap.size v0 (v0.alloc (.cells #[] 51)) := (Below.refl _ _).alloc (Nat.le_refl _) _
      generalize v0.alloc (.cells #[] 51) = w0_ at hO J0 ⊢
      refine hK.out _ _ trivial (fun hHeld => ?_)
      clear hK K
      (try simp only [List.getElem_toArray, List.getElem_cons_succ, List.getElem_cons_zero, Act.put, List.setIfInBounds_toArray, List.set_cons_zero, List.set_cons_succ])
      refine wpAnyH_ready (rs := [4]) (by kernel_rfl) (by simp) (AllReadyH.cons (o := _) rfl (fun K hK => ?_) AllReadyH.nil)
      rw [if_pos (by rfl)]
      have hS1b := hS1.below J0
      refine op_append_rows (css := []) (css' := rowsP (zs.drop k)) _ _ rfl elem_gp v0.heap.size rfl hO rfl hS1b (rowsP_cells _) hl1 J0.size ?_
      intro v1_ w1_ hO1 hg1
      have J1 := J0.trans (hO.trod hg1 J0.size)
      rw [List.nil_append] at hO1
      clear hO hg1 J0 hS1b
      refine hK.out _ _ trivial (fun hHeld => ?_)
      clear hK K
      (try simp only [List.getElem_toArray, List.getElem_cons_succ, List.getElem_cons_zero, Act.put, List.setIfInBounds_toArray, List.set_cons_zero, List.set_cons_succ])
      refine wpAnyH_ready (rs := [8]) (by kernel_rfl) (by simp) (AllReadyH.cons (o := _) rfl (fun K hK => ?_) AllReadyH.nil)
      rw [if_pos (by rfl)]
      have hS2b := hS2.below J1
      refine op_append_rows (css := rowsP (zs.drop k)) (css' := rowsP (zs.take k)) _ _ rfl elem_gp v0.heap.size rfl hO1 rfl hS2b (rowsP_cells _) hl2 J1.size ?_
      intro v2_ w2_ hO2 hg2
      have J2 := J1.trans (hO1.trod hg2 J1.size)
      replace hO2 : OwnE w2_ v0.heap.size 51 6 v2_ (rowsP (rotL k zs)) := by unfold rowsP rotL at *; rw [List.map_append]; exact hO2
      obtain ⟨A2_, c2_, hv2, hx1, hx2⟩ := hO2.form
      rw [rowsP_len] at hv2
      subst hv2
      clear hx1 hx2 hg2 hO1 J1 hS2b
      refine hK.out _ _ trivial (fun hHeld => ?_)
      clear hK K
      (try simp only [List.getElem_toArray, List.getElem_cons_succ, List.getElem_cons_zero, Act.put, List.setIfInBounds_toArray, List.set_cons_zero, List.set_cons_succ])
      clear hS1 hS2
      replace hR := hR.below J2
      replace hF := hF.below J2
      replace hT := hT.keep J2 hlt
      replace hlt := Nat.lt_of_lt_of_le hlt J2.size
      replace G0 := only_below G0 J2 G0.size
      clear J2
      refine wpAnyH_take (i := 9) (v := ?_) rfl (by kernel_rfl) (by kernel_rfl) (by kernel_rfl) (fun _ _ _ h => h) (Or.inl ⟨by rfl, ?_⟩) (by assumption) ?_
      rotate_left
      · (intro w hSw; (try dsimp only at hSw); go_simp; (try with_reducible rfl))
      (try simp only [List.getElem_toArray, List.getElem_cons_succ, List.getElem_cons_zero, Act.put, List.setIfInBounds_toArray, List.set_cons_zero, List.set_cons_succ])
      refine wpAnyH_done (by kernel_rfl) ?_ _
      refine NoPanic.normal ?_
      have hRR := hO2.read
      have hFR : FP w2_ 8 (rotL k zs) := fun z hz => hF z ((List.mem_append.1 hz).elim List.mem_of_mem_drop List.mem_of_mem_take)
      have HRK : Hid (RingOk (rotL k zs)) := Lib.hid (rot_ok hil HOK.out)
      obtain ⟨rs, hrs⟩ : ∃ l, rotL k zs = l := ⟨_, rfl⟩
      rw [hrs] at hRR hFR HRK ⊢
      clear hrs hO2
      go_wp2_with fail
      exact HKX.out _ _ ⟨_, _, rs, _, _, _, _, _, _, _, _, _, _, _, _, _, _, _, _, _, _, _, _, _, _, _, _, rfl, HRK.out, hR, hF, hRR, hFR, G0⟩
    · have d0 : ((r0 : Int) == 0) = false := by rw [beq_eq_false_iff_ne]; omega
      go_wp2_with fail
      exact HKX.out _ _ ⟨_, _, ys, _, _, _, _, _, _, _, _, _, _, _, _, _, _, _, _, _, _, _, _, _, _, _, _, rfl, HOKS.out, hR, hF, hS, hFS, G0⟩
end
end Go.Proofs.YthmmnmajkeoaaabGreatDoor
