/-
  The reference's Combine.
-/
import Derived.Test.YtpgkkkodniiilaaGreatDoorWSq
import Derived.Test.YtpgkkkodniiilaaGreatDoorWSpP
import Derived.Test.YtpgkkkodniiilaaGreatDoorWSpQ
import Derived.Test.YtpgkkkodniiilaaGreatDoorWSpR
import Derived.IntWalk
import Derived.Deep.Cut
namespace Go.Proofs.YtpgkkkodniiilaaGreatDoor
open List (getElem_toArray getElem_cons_succ getElem_cons_zero setIfInBounds_toArray set_cons_zero set_cons_succ)
open Go.RowKit
section
variable {f0 h0 f1 h1 f2 h2 f3 h3 f4 h4 f5 h5 f6 h6 f7 h7 f8 h8 f9 h9 f10 h10 f11 h11 : Bool} {A1 A2 A4 A9 D4 : Option Addr} {n4 c1 c2 c4 c9 m4 e1 e4 : Nat} {s4 s6 : Bool} {q0 q1 q2 q3 q4 q5 q6 q7 : Rat} {z0 z1 z2 z3 z4 z5 z6 z7 z8 z9 z10 z11 : Int} {L L0 L1 x y : Nat} {k : Int} {b : Bool} {w : World}
variable {o0 o1 o2 o3 : Option Rat} {l l' : List Sp}
theorem Box.owne {g : Nat} {e : TypeId} {k B : Nat} (h : Box w g #[] e) (hB : B ≤ g) : OwnE w B e k (.slice (some ⟨g, 0, none⟩) 0 0) [] :=
  ⟨fun x hx => (by cases hx), ⟨by simp, .inr ⟨g, 0, #[], rfl, hB, h, Nat.le_refl _, by decide, by simp, by simp⟩⟩, fun g' hg' => by injection hg' with hg'; subst hg'; exact ⟨_, _, h, by simp⟩⟩
theorem in_x {v : Value} {q : Rat} {x : Bool} (hx : ((clsL l q : Int) == 2) = x) (hS : SrS w L v l) (hq : PQ w s4 (.slice A4 n4 c4) (.slice D4 m4 e4) q L0) (hL : L ≤ 100) (hL0 : L0 ≤ 100) :
    Calls Tryz.prog 67 #[v, .agg #[.bool s4, .slice A4 n4 c4, .slice D4 m4 e4]] w fun e w' => e = .returned (.bool x) ∧ Below w.heap.size w w' := by
  rw [← hx]; exact in_v hS hq hL hL0
set_option maxRecDepth 100000 in
set_option maxHeartbeats 4000000 in
theorem probes_nil {v : Value} {L' : Nat} (hQ : QS w L v []) :
    Calls Tryz.prog 66 #[v] w fun e w' => ∃ y, e = .returned y ∧ QS w' L' y (probesT []) ∧ Below w.heap.size w w' := by
  obtain ⟨A, c, e1, hc1, hc2⟩ := hQ.form
  subst e1
  clear hQ
  simp only [List.length_nil]
  go_enter Tryz.func66, Tryz.ntmps66
  obtain ⟨W0, hW, b0, hb0, hs0⟩ := boxes1 w #[.bool false, .slice none 0 0, .slice none 0 0] 37
  go_wp2_with fail
  go_ret
  exact ⟨_, rfl, ⟨_, Box.readl (cs := [.bool false, .slice none 0 0, .slice none 0 0]) b0 rfl, ⟨_, _, _, _, _, _, _, rfl, PQ.zero _⟩, trivial⟩, hb0⟩
set_option maxRecDepth 100000 in
set_option maxHeartbeats 4000000 in
theorem combine_or {va vb : Value} {la lb : List Sp} (hA : SrS w L va la) (hB : SrS w L vb lb) (hn : la.length + lb.length ≤ 400) (hL : L ≤ 40) :
    Calls Tryz.prog 29 #[.int .i64 1, va, vb] w fun e w' => ∃ y, e = .returned y ∧ SrS w' L y (fromG [] false none (endsT [] (la ++ lb)) ((probesT (endsT [] (la ++ lb))).map (fun q => ((clsL la q : Int) == 2) || ((clsL lb q : Int) == 2)))) ∧ Below w.heap.size w w' := by
  obtain ⟨A, c, rfl, hc1, hc2⟩ := hA.form
  obtain ⟨A', c', rfl, hc3, hc4⟩ := hB.form
  unfold maxLen at hc2 hc4
  have HA := Lib.hid hA
  have HB := Lib.hid hB
  obtain ⟨cssa, hra, haa⟩ := hA
  obtain ⟨cssb, hrb, hab⟩ := hB
  have HLA := Lib.hid (All2.len haa)
  have HLB := Lib.hid (All2.len hab)
  replace haa : SrL w L cssa la := haa
  replace hab : SrL w L cssb lb := hab
  have hca := sre_cells haa
  have hcb := sre_cells hab
  have HRA := Lib.hid hra
  have HRB := Lib.hid hrb
  clear hra hrb
  obtain ⟨W0, hW, b0, hb0, hs0⟩ := boxes1 w #[] 39
  have hown : OwnE W0 w.heap.size 39 8 (.slice (some ⟨w.heap.size, 0, none⟩) 0 0) [] := b0.owne (Nat.le_refl _)
  have lB0 : w.heap.size ≤ W0.heap.size := hb0.size
  have ln0 : ([] : List (List Value)).length + cssa.length ≤ 200000 := by have := HLA.out; simp; omega
  have ln1 : cssa.length + cssb.length ≤ 200000 := by have := HLA.out; have := HLB.out; omega
  clear b0 hs0
  have hcl := (endsT_spec (la ++ lb) [] trivial).2.2.2.1
  rw [List.length_append] at hcl
  simp only [List.length_nil] at hcl
  have hpl := probes_len (endsT [] (la ++ lb))
  generalize hcuts : endsT [] (la ++ lb) = cuts at hcl hpl ⊢
  have HCU := Lib.hid hcuts
  generalize hps : probesT cuts = ps at hpl ⊢
  have HPS := Lib.hid hps
  have HPL := Lib.hid hpl
  clear hcuts hps hpl
  go_enter Tryz.func29, Tryz.ntmps29
  go_wp2_with (at_builtin; first | (refine wpList_append_rows (v := .slice (some ⟨w.heap.size, 0, none⟩) 0 0) (css := []) (css' := cssa) rfl _ _ rfl elem_s6 w.heap.size rfl hown rfl (HRA.out.below hb0) hca ln0 lB0 ?_; intro v1 w1 hown1 hg1; have hb1 := hb0.trans (hown.trod hg1 lB0); rw [List.nil_append] at hown1; obtain ⟨A1_, c1_, rfl, hx1, hx2⟩ := hown1.form; clear hx1 hx2) | (refine wpList_append_rows (v := .slice A1_ cssa.length c1_) (css := cssa) (css' := cssb) rfl _ _ rfl elem_s6 w.heap.size rfl hown1 rfl (HRB.out.below hb1) hcb ln1 hb1.size ?_; intro v2 w2 hown2 hg2; have hb2 := hb1.trans (hown1.trod hg2 hb1.size)))
  have hSS : SrS w2 L v2 (la ++ lb) := ⟨_, hown2.read, All2.app (haa.below hb2) (hab.below hb2)⟩
  clear hW hown hown1 hown2 hg1 hg2 hb0 hb1 haa hab hca hcb HRA HRB lB0 ln0 ln1
  refine (ends_v hSS (by simp; omega) hL).mono ?_
  rintro e w3 ⟨y1, rfl, hC, hb3⟩
  replace hb3 := hb2.trans (hb3.mono hb2.size)
  clear hSS hb2
  rw [HCU.out] at hC
  go_wp2_with fail
  have hP : Calls Tryz.prog 66 #[y1] w3 fun e w' => ∃ y, e = .returned y ∧ QS w' (2 * max L 2 + 3) y (probesT cuts) ∧ Below w3.heap.size w3 w' := by
    clear HCU HPS HPL
    cases cuts with
    | nil => exact probes_nil hC
    | cons q0 qs => exact probes_v hC (by omega) hL
  refine hP.mono ?_
  rintro e w4 ⟨y2, rfl, hQ, hb4⟩
  clear hP
  have HC := Lib.hid (hC.below hb4)
  replace hb4 := hb3.trans (hb4.mono hb3.size)
  clear hC hb3
  have HA4 := Lib.hid (HA.out.below hb4)
  have HB4 := Lib.hid (HB.out.below hb4)
  have HBL := Lib.hid hb4
  clear HA HB hb4
  rw [HPS.out] at hQ
  obtain ⟨A2, c2, rfl, hc5, hc6⟩ := hQ.form
  unfold maxLen at hc6
  have hpn : ps.length ≤ 10000 := by have := HPL.out; omega
  have HQP := Lib.hid hQ
  clear hQ
  go_wp2_with fail
  go_loopw [8, 23] (fun t8 t23 wr => ∃ (i : Nat) (A9 : Option Addr) (c9 : Nat) (css : List (List Value)), i ≤ ps.length ∧ t23 = .int .i64 (i : Int) ∧ t8 = .slice A9 css.length c9 ∧ OwnE wr w4.heap.size 4 1 (.slice A9 css.length c9) css ∧ css = ((ps.take i).map (fun q => ((clsL la q : Int) == 2) || ((clsL lb q : Int) == 2))).map (fun m => [Value.bool m]) ∧ Below w4.heap.size w4 wr) (fun _ t23 _ => ps.length - (intOf t23).toNat)
  case atStart => exact ⟨0, none, 0, [], Nat.zero_le _, rfl, rfl, OwnE.nil _ _ _ _, rfl, Below.refl _ _⟩
  case round =>
    obtain ⟨i, A9, c9, css, hi, rfl, rfl, hown, hcss, H0⟩ := hrel
    have HCSS := Lib.hid hcss
    have hcl9 : css.length ≤ i := by rw [hcss, List.length_map, List.length_map]; exact List.length_take_le _ _
    clear hcss
    by_cases hlt : i < ps.length
    · obtain ⟨q, hq⟩ : ∃ q, ps[i]? = some q := ⟨_, List.getElem?_eq_getElem hlt⟩
      obtain ⟨g, o, s4, A4, n4, c4, D4, m4, e4, rfl, cc0, cc1, cc2, kq⟩ := (HQP.out.below H0).elem hq
      obtain ⟨x, hx⟩ : ∃ x, ((clsL la q : Int) == 2) = x := ⟨_, rfl⟩
      obtain ⟨y, hy⟩ : ∃ x, ((clsL lb q : Int) == 2) = x := ⟨_, rfl⟩
      have HX := Lib.hid hx
      have HY := Lib.hid hy
      clear hx hy
      have HT : Hid (((ps.take (i + 1)).map (fun q => ((clsL la q : Int) == 2) || ((clsL lb q : Int) == 2))).map (fun m => [Value.bool m]) = css ++ [[Value.bool (x || y)]]) := Lib.hid (by rw [List.take_add_one, hq, List.map_append, List.map_append, ← HCSS.out, ← HX.out, ← HY.out]; rfl)
      clear hq
      obtain ⟨W5, hW5, b10, hb10, hs10⟩ := boxes1 wr #[.bool s4, .slice A4 n4 c4, .slice D4 m4 e4] 37
      have hn10 := hown.ne' (Nat.le_refl _)
      replace hown := hown.below hb10
      replace kq := kq.below hb10
      replace H0 := H0.trans (hb10.mono H0.size)
      clear hs10 hb10
      have hA5 := HA4.out.below H0
      have hB5 := HB4.out.below H0
      go_wp2_with fail
      clear hW5 cc0 cc1 cc2
      have hD := drawn_below W5
      replace kq := kq.below hD
      replace hA5 := hA5.below hD
      replace hB5 := hB5.below hD
      replace hown := hown.below hD
      replace b10 := b10.below hD
      replace H0 := H0.trans (hD.mono H0.size)
      clear hD
      refine wp_region_noPanic ?_
      refine wp_region_held_drew (S := (fun V => V.cell? ⟨wr.heap.size, 0, none⟩ = some (.bool s4) ∧ V.cell? ⟨wr.heap.size, 1, none⟩ = some (.slice A4 n4 c4) ∧ V.cell? ⟨wr.heap.size, 2, none⟩ = some (.slice D4 m4 e4))) (by kernel_rfl) (b10.all3) (fun hHeld => ?_)
      generalize W5.drew = v600 at H0 hHeld kq hA5 hB5 hown b10 ⊢
      refine todo [0, 1, 3, 4] ?_
      iterate 4
        refine tkT ?_ rfl (by kernel_rfl) (fun _ _ _ h => h) (by rfl) (by assumption) ?_ ?_
        rotate_left
        · (intro w hSw; (try dsimp only at hSw); go_simp; (try with_reducible rfl))
        (try simp only [getElem_toArray, getElem_cons_succ, getElem_cons_zero, Act.put, setIfInBounds_toArray, set_cons_zero, set_cons_succ])
      refine tdone ?_
      refine rd1 2 (by kernel_rfl) rfl (fun K hK => ?_)
      go_simp
      go_at_call 67
      refine (in_x HX.out hA5 kq (by omega) (by omega)).mono ?_
      rintro e w601 ⟨rfl, hb⟩
      replace kq := kq.below hb
      replace hA5 := hA5.below hb
      replace hB5 := hB5.below hb
      replace hown := hown.below hb
      replace b10 := b10.below hb
      replace H0 := H0.trans (hb.mono H0.size)
      clear hb
      go_wp2_with fail
      refine hK.out _ _ (b10.all3) (fun hHeld => ?_)
      clear hK K
      (try simp only [getElem_toArray, getElem_cons_succ, getElem_cons_zero, Act.put, setIfInBounds_toArray, set_cons_zero, set_cons_succ])
      refine rd1 5 (by kernel_rfl) rfl (fun K hK => ?_)
      go_simp
      go_at_call 67
      refine (in_x HY.out hB5 kq (by omega) (by omega)).mono ?_
      rintro e w602 ⟨rfl, hb⟩
      replace kq := kq.below hb
      replace hA5 := hA5.below hb
      replace hB5 := hB5.below hb
      replace hown := hown.below hb
      replace b10 := b10.below hb
      replace H0 := H0.trans (hb.mono H0.size)
      clear hb
      go_wp2_with fail
      refine hK.out _ _ (b10.all3) (fun hHeld => ?_)
      clear hK K
      (try simp only [getElem_toArray, getElem_cons_succ, getElem_cons_zero, Act.put, setIfInBounds_toArray, set_cons_zero, set_cons_succ])
      refine todo [6, 7] ?_
      iterate 2
        refine tkT ?_ rfl (by kernel_rfl) (fun _ _ _ h => h) (by rfl) (by assumption) ?_ ?_
        rotate_left
        · (intro w hSw; (try dsimp only at hSw); go_simp; (try with_reducible rfl))
        (try simp only [getElem_toArray, getElem_cons_succ, getElem_cons_zero, Act.put, setIfInBounds_toArray, set_cons_zero, set_cons_succ])
      refine tdone ?_
      refine wpAnyH_done (by kernel_rfl) ?_ _
      refine NoPanic.normal ?_
      clear b10 kq hA5 hB5 hn10
      have lB1 : w4.heap.size ≤ w602.heap.size := H0.size
      have ln1 : css.length ≤ 100000 := by omega
      cases x <;> cases y
      · have hq1 : ([.bool false] : List Value).all (fun u => u.oneCell' && notInt u) = true := by simp [notInt, Value.oneCell']
        go_wp2_with (at_builtin; refine wpList_append_row (v := .slice A9 css.length c9) (css := css) rfl _ _ rfl elem_bool w4.heap.size [.bool false] rfl hown rfl rfl hq1 ln1 lB1 ?_; intro v1 w8 hown1 hg1)
        replace H0 := H0.trans (hown.trod hg1 lB1)
        have HT2 : Hid (css ++ [[.bool false]] = _) := Lib.hid HT.out.symm
        clear hown hg1 hq1 ln1 lB1 hcl9 HT
        generalize css ++ [[.bool false]] = cs1_ at hown1 HT2
        obtain ⟨A1_, c1_, rfl, hx1, hx2⟩ := hown1.form
        clear hx1 hx2
        go_wp2_with fail
        go_roundw
        case rel => exact ⟨i + 1, _, _, _, by omega, by go_num, rfl, hown1, HT2.out, H0⟩
        case measure => simp [intOf]; omega
      · have hq1 : ([.bool true] : List Value).all (fun u => u.oneCell' && notInt u) = true := by simp [notInt, Value.oneCell']
        go_wp2_with (at_builtin; refine wpList_append_row (v := .slice A9 css.length c9) (css := css) rfl _ _ rfl elem_bool w4.heap.size [.bool true] rfl hown rfl rfl hq1 ln1 lB1 ?_; intro v1 w8 hown1 hg1)
        replace H0 := H0.trans (hown.trod hg1 lB1)
        have HT2 : Hid (css ++ [[.bool true]] = _) := Lib.hid HT.out.symm
        clear hown hg1 hq1 ln1 lB1 hcl9 HT
        generalize css ++ [[.bool true]] = cs1_ at hown1 HT2
        obtain ⟨A1_, c1_, rfl, hx1, hx2⟩ := hown1.form
        clear hx1 hx2
        go_wp2_with fail
        go_roundw
        case rel => exact ⟨i + 1, _, _, _, by omega, by go_num, rfl, hown1, HT2.out, H0⟩
        case measure => simp [intOf]; omega
      · have hq1 : ([.bool true] : List Value).all (fun u => u.oneCell' && notInt u) = true := by simp [notInt, Value.oneCell']
        go_wp2_with (at_builtin; refine wpList_append_row (v := .slice A9 css.length c9) (css := css) rfl _ _ rfl elem_bool w4.heap.size [.bool true] rfl hown rfl rfl hq1 ln1 lB1 ?_; intro v1 w8 hown1 hg1)
        replace H0 := H0.trans (hown.trod hg1 lB1)
        have HT2 : Hid (css ++ [[.bool true]] = _) := Lib.hid HT.out.symm
        clear hown hg1 hq1 ln1 lB1 hcl9 HT
        generalize css ++ [[.bool true]] = cs1_ at hown1 HT2
        obtain ⟨A1_, c1_, rfl, hx1, hx2⟩ := hown1.form
        clear hx1 hx2
        go_wp2_with fail
        go_roundw
        case rel => exact ⟨i + 1, _, _, _, by omega, by go_num, rfl, hown1, HT2.out, H0⟩
        case measure => simp [intOf]; omega
      · have hq1 : ([.bool true] : List Value).all (fun u => u.oneCell' && notInt u) = true := by simp [notInt, Value.oneCell']
        go_wp2_with (at_builtin; refine wpList_append_row (v := .slice A9 css.length c9) (css := css) rfl _ _ rfl elem_bool w4.heap.size [.bool true] rfl hown rfl rfl hq1 ln1 lB1 ?_; intro v1 w8 hown1 hg1)
        replace H0 := H0.trans (hown.trod hg1 lB1)
        have HT2 : Hid (css ++ [[.bool true]] = _) := Lib.hid HT.out.symm
        clear hown hg1 hq1 ln1 lB1 hcl9 HT
        generalize css ++ [[.bool true]] = cs1_ at hown1 HT2
        obtain ⟨A1_, c1_, rfl, hx1, hx2⟩ := hown1.form
        clear hx1 hx2
        go_wp2_with fail
        go_roundw
        case rel => exact ⟨i + 1, _, _, _, by omega, by go_num, rfl, hown1, HT2.out, H0⟩
        case measure => simp [intOf]; omega
    · obtain rfl : i = ps.length := by omega
      have hM : MS wr (.slice A9 css.length c9) (ps.map (fun q => ((clsL la q : Int) == 2) || ((clsL lb q : Int) == 2))) := by
        have h1 := hown.read
        have h2 := HCSS.out
        rw [List.take_length] at h2
        unfold MS
        rw [← h2]; exact h1
      have hC := HC.out.below H0
      clear hown
      go_wp2_with fail
      refine (from_v hC hM (by rw [List.length_map]; exact HPL.out) (by omega)).mono ?_
      rintro e w9 ⟨y, rfl, hF, hb⟩
      go_wp2_with fail
      go_ret
      exact ⟨_, rfl, hF, HBL.out.trans ((H0.trans (hb.mono H0.size)).mono HBL.out.size)⟩
end
end Go.Proofs.YtpgkkkodniiilaaGreatDoor
