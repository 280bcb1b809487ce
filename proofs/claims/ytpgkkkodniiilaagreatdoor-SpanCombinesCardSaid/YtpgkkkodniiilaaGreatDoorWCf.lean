/-
  Subtract and Complement; the reference's intersection and difference.
-/
import Derived.Test.YtpgkkkodniiilaaGreatDoorWSpJ
import Derived.Test.YtpgkkkodniiilaaGreatDoorWSpS
import Derived.IntWalk
import Derived.Deep.Cut
namespace Go.Proofs.YtpgkkkodniiilaaGreatDoor
open Go.RowKit
section
variable {f0 h0 f1 h1 f2 h2 f3 h3 f4 h4 f5 h5 f6 h6 f7 h7 f8 h8 f9 h9 f10 h10 f11 h11 : Bool} {A0 A1 A2 A3 A4 A5 A6 A7 A8 A9 A10 A11 A12 A13 A14 A15 A16 A17 A18 A19 A20 A21 A22 A23 D0 D1 D2 D3 D4 D5 D6 D7 D8 D9 D10 D11 D12 D13 D14 D15 D16 D17 D18 D19 D20 D21 D22 D23 : Option Addr} {n0 n1 n2 n3 n4 n5 n6 n7 n8 n9 n10 n11 n12 n13 n14 n15 n16 n17 n18 n19 n20 n21 n22 n23 c0 c1 c2 c3 c4 c5 c6 c7 c8 c9 c10 c11 c12 c13 c14 c15 c16 c17 c18 c19 c20 c21 c22 c23 m0 m1 m2 m3 m4 m5 m6 m7 m8 m9 m10 m11 m12 m13 m14 m15 m16 m17 m18 m19 m20 m21 m22 m23 e0 e1 e2 e3 e4 e5 e6 e7 e8 e9 e10 e11 e12 e13 e14 e15 e16 e17 e18 e19 e20 e21 e22 e23 : Nat} {s0 s1 s2 s3 s4 s5 s6 s7 s8 s9 s10 s11 s12 s13 s14 s15 s16 s17 s18 s19 s20 s21 s22 s23 : Bool} {q0 q1 q2 q3 q4 q5 q6 q7 : Rat} {z0 z1 z2 z3 z4 z5 z6 z7 z8 z9 z10 z11 : Int} {L L0 L1 x y : Nat} {k : Int} {b : Bool} {w : World}
variable {o0 o1 o2 o3 : Option Rat} {l l' : List Sp}
theorem tal_zero (w : World) (L : Nat) : TalV w L (.agg #[.int .i64 0, .slice none 0 0]) 0 [] :=
  ⟨none, 0, 0, rfl, [], ⟨fun cs h => (by cases h), none, 0, rfl, Nat.le_refl _, by decide, fun h => absurd rfl h⟩, trivial⟩
theorem kb_not (b : Bool) : -kb b = kb (!b) := by cases b <;> rfl
theorem ob_not (b : Bool) : 1 - ob b = ob (!b) := by cases b <;> rfl
end
def negE (l : List (Rat × Int)) : List (Rat × Int) := l.map fun e => (e.1, -e.2)
section
variable {f0 h0 f1 h1 f2 h2 f3 h3 f4 h4 f5 h5 f6 h6 f7 h7 f8 h8 f9 h9 f10 h10 f11 h11 : Bool} {A0 A1 A2 A3 A4 A5 A6 A7 A8 A9 A10 A11 A12 A13 A14 A15 A16 A17 A18 A19 A20 A21 A22 A23 D0 D1 D2 D3 D4 D5 D6 D7 D8 D9 D10 D11 D12 D13 D14 D15 D16 D17 D18 D19 D20 D21 D22 D23 : Option Addr} {n0 n1 n2 n3 n4 n5 n6 n7 n8 n9 n10 n11 n12 n13 n14 n15 n16 n17 n18 n19 n20 n21 n22 n23 c0 c1 c2 c3 c4 c5 c6 c7 c8 c9 c10 c11 c12 c13 c14 c15 c16 c17 c18 c19 c20 c21 c22 c23 m0 m1 m2 m3 m4 m5 m6 m7 m8 m9 m10 m11 m12 m13 m14 m15 m16 m17 m18 m19 m20 m21 m22 m23 e0 e1 e2 e3 e4 e5 e6 e7 e8 e9 e10 e11 e12 e13 e14 e15 e16 e17 e18 e19 e20 e21 e22 e23 : Nat} {s0 s1 s2 s3 s4 s5 s6 s7 s8 s9 s10 s11 s12 s13 s14 s15 s16 s17 s18 s19 s20 s21 s22 s23 : Bool} {q0 q1 q2 q3 q4 q5 q6 q7 : Rat} {z0 z1 z2 z3 z4 z5 z6 z7 z8 z9 z10 z11 : Int} {L L0 L1 x y : Nat} {k : Int} {b : Bool} {w : World}
variable {o0 o1 o2 o3 : Option Rat} {l l' : List Sp}
set_option maxRecDepth 100000 in
set_option maxHeartbeats 4000000 in
theorem inverse_v {v : Value} {oc : Int} {l : List (Rat × Int)} (hT : TalV w L v oc l) (hU : Unit1 l) (hn : l.length ≤ 20000) (ho1 : -1000 ≤ oc) (ho2 : oc ≤ 1000) :
    Calls Tryz.prog 53 #[v] w fun e w' => ∃ y, e = .returned y ∧ TalV w' L y (1 - oc) (negE l) ∧ Below w.heap.size w w' := by
  obtain ⟨A, n, c, rfl, hE⟩ := hT
  obtain ⟨A', c', e1, hc1, hc2⟩ := hE.form
  injection e1 with e1 e2 e3
  subst e1 e2 e3
  unfold maxLen at hc2
  have hwo : IntKind.i64.wrap (1 - oc) = 1 - oc := IntWalk.i64_in _ (by omega)
  obtain ⟨V1, hV, b1, br, hbV, hszV⟩ := boxes2 w #[.int .i64 oc, .slice A l.length c] #[.int .i64 0, .slice none 0 0] 93 93
  go_enter Tryz.func53, Tryz.ntmps53
  go_upto_region 1 with fail
  clear hV
  have x0 := b1.cell 0 _ rfl
  go_upto_region 2 with fail
  clear x0 hwo
  obtain ⟨V0, hW, bc, hbW, hszW⟩ := boxes1 V1 #[.int .i64 (1 - oc), .slice none 0 0] 93
  rw [hszV] at bc
  have br := br.below hbW
  have b1' := b1.below hbW
  have hbV := hbV.trans (hbW.mono hbV.size)
  first | rw [hW] | (rw [hszV] at hW; rw [hW]) | skip
  have x2 := b1'.cell 1 _ rfl
  clear hW hszW b1 hbW
  clear hszV
  go_wp2_with fail
  clear x2 b1'
  go_loopw [13] (fun t8 wr => ∃ (i : Nat) (A9 : Option Addr) (c9 : Nat) (css : List (List Value)), i ≤ l.length ∧ t8 = .int .i64 i ∧ Box wr (w.heap.size + 2) #[.int .i64 (1 - oc), .slice A9 css.length c9] 93 ∧ Box wr (w.heap.size + 1) #[.int .i64 0, .slice none 0 0] 93 ∧ OwnE wr (w.heap.size + 3) 133 4 (.slice A9 css.length c9) css ∧ EnL wr L css (negE (l.take i)) ∧ Below w.heap.size w wr) (fun t8 _ => l.length - (intOf t8).toNat)
  case atStart => exact ⟨0, none, 0, [], Nat.zero_le _, rfl, bc, br, OwnE.nil _ _ _ _, trivial, hbV⟩
  case round =>
    clear bc br hbV
    obtain ⟨i, A9, c9, css, hi, rfl, bc, br, hown, hall, H0⟩ := hrel
    have hcl : css.length ≤ i := by have h1 := All2.len hall; have h3 : (l.take i).length ≤ i := List.length_take_le _ _; unfold negE at h1; rw [List.length_map] at h1; omega
    by_cases hlt : i < l.length
    · obtain ⟨sp, hsp⟩ : ∃ s, l[i]? = some s := ⟨_, List.getElem?_eq_getElem hlt⟩
      obtain ⟨g, o, s0, A0, n0, c0, D0, m0, e0, rfl, cc0, cc1, cc2, cc3, j0⟩ := (hE.below H0).elem hsp
      have hu := hU sp (List.mem_of_getElem? hsp)
      have hwn : IntKind.i64.wrap (-sp.2) = -sp.2 := IntWalk.i64_in _ (by omega)
      have HSP : Hid (negE (l.take (i + 1)) = negE (l.take i) ++ [(sp.1, -sp.2)]) := Lib.hid (by unfold negE; rw [List.take_add_one, hsp]; simp)
      clear hE hsp
      obtain ⟨W0, hW, b5, hbW, hsz⟩ := boxes1 wr #[.bool s0, .slice A0 n0 c0, .slice D0 m0 e0, .int .i64 sp.2] 133
      have hn5 := hown.ne' (Nat.le_refl _)
      have lbc := bc.lt
      replace bc := bc.below hbW
      replace br := br.below hbW
      replace hown := hown.below hbW
      replace hall := hall.below hbW
      replace j0 := j0.below hbW
      replace H0 := H0.trans (hbW.mono H0.size)
      have ln1 : css.length ≤ 100000 := by omega
      have lB1 : w.heap.size + 3 ≤ W0.heap.size := by have := bc.lt; omega
      have hq1 : ([.bool s0, .slice A0 n0 c0, .slice D0 m0 e0, .int .i64 (-sp.2)] : List Value).all (fun u => u.oneCell' && notInt u) = true := by simp [notInt, Value.oneCell']
      have x0 := b5.cell 0 _ rfl
      have x1 := b5.cell 1 _ rfl
      have x2 := b5.cell 2 _ rfl
      have x3 := b5.cell 3 _ rfl
      have y0 := bc.cell 0 _ rfl
      have y1 := bc.cell 1 _ rfl
      clear hsz
      go_wp2_with (at_builtin; refine wpList_append_row (v := .slice A9 css.length c9) (css := css) rfl _ _ rfl elem_end (w.heap.size + 3) [.bool s0, .slice A0 n0 c0, .slice D0 m0 e0, .int .i64 (-sp.2)] rfl hown rfl rfl hq1 ln1 lB1 ?_; intro v1 w1 hown1 hg1; have bc1 := bc.own hg1 (hown.ne (by omega)); have hall1 := EnL.snoc (z := -sp.2) (hall.own hown hg1) (j0.own hown hg1); generalize css ++ [([.bool s0, .slice A0 n0 c0, .slice D0 m0 e0, .int .i64 (-sp.2)] : List Value)] = cs1_ at hown1 hall1; obtain ⟨A1_, c1_, rfl, hc_, hm_⟩ := hown1.form; clear hc_ hm_; have z0 := bc1.cell 0 _ rfl; have z1 := bc1.cell 1 _ rfl; have zf1 := bc1.frozen 1)
      clear x0 x1 x2 x3 y0 y1 hW hbW cc0 cc1 cc2 cc3
      have br1 := br.own hg1 (hown.ne (by omega))
      have H01 := H0.trans ((hown.trod hg1 lB1).mono (by omega))
      clear hall hown br b5 j0 bc hg1 lB1 ln1 H0 hn5
      have hg : w1.grownBy _ (some (w.heap.size + 2)) := only_setCell w1 ⟨w.heap.size + 2, 1, none⟩ (.slice A1_ cs1_.length c1_)
      have hB : Box _ _ #[.int .i64 (1 - oc), .slice A1_ cs1_.length c1_] _ := bc1.step 1 (.slice A1_ cs1_.length c1_)
      generalize hX : w1.setCell ⟨w.heap.size + 2, 1, none⟩ (.slice A1_ cs1_.length c1_) = X1 at hg hB ⊢
      clear hX
      have br := br1.other hg (by omega)
      have hown := hown1.box bc1 hg (hown1.ne (by omega))
      have hall := hall1.kept bc1 (by simp [notInt]) hg
      have H0 := below_only H01 hg (by omega) H01.size
      clear hg bc1 br1 hown1 hall1 H01
      go_wp2_with fail
      go_roundw
      case rel => exact ⟨i + 1, _, _, _, by omega, by go_num, hB, br, hown, by rw [HSP.out]; exact hall, H0⟩
      case measure => simp [intOf]; omega
    · obtain rfl : i = l.length := by omega
      clear hE
      rw [List.take_length] at hall
      go_upto_region 7 with fail
      have y0 := bc.cell 0 _ rfl
      have y1 := bc.cell 1 _ rfl
      have z0 := br.cell 0 _ rfl
      have z1 := br.cell 1 _ rfl
      have f0 := br.frozen 0
      have f1 := br.frozen 1
      go_wp2_with fail
      clear y0 y1 z0 z1 f0 f1
      have hg := only_store wr (w.heap.size + 1) (.int .i64 (1 - oc)) (.slice A9 css.length c9)
      have hB := br.stored (.int .i64 (1 - oc)) (.slice A9 css.length c9)
      have hX := hown.box br hg (hown.ne (by omega))
      have hY := hall.kept br (by simp [notInt]) hg
      refine bodyPost_ret (ret_tally rfl rfl hB) rfl ?_
      exact ⟨_, rfl, ⟨_, _, _, rfl, _, hX.read, hY⟩, below_only H0 hg (by omega) H0.size⟩
end
theorem negE_alt (k : Int) (ts : List Rat) : negE (alt k ts) = alt (-k) ts := by
  induction ts generalizing k with
  | nil => rfl
  | cons t ts ih => show (t, -k) :: negE (alt (-k) ts) = _; rw [ih]; rfl
section
variable {f0 h0 f1 h1 f2 h2 f3 h3 f4 h4 f5 h5 f6 h6 f7 h7 f8 h8 f9 h9 f10 h10 f11 h11 : Bool} {A0 A1 A2 A3 A4 A5 A6 A7 A8 A9 A10 A11 A12 A13 A14 A15 A16 A17 A18 A19 A20 A21 A22 A23 D0 D1 D2 D3 D4 D5 D6 D7 D8 D9 D10 D11 D12 D13 D14 D15 D16 D17 D18 D19 D20 D21 D22 D23 : Option Addr} {n0 n1 n2 n3 n4 n5 n6 n7 n8 n9 n10 n11 n12 n13 n14 n15 n16 n17 n18 n19 n20 n21 n22 n23 c0 c1 c2 c3 c4 c5 c6 c7 c8 c9 c10 c11 c12 c13 c14 c15 c16 c17 c18 c19 c20 c21 c22 c23 m0 m1 m2 m3 m4 m5 m6 m7 m8 m9 m10 m11 m12 m13 m14 m15 m16 m17 m18 m19 m20 m21 m22 m23 e0 e1 e2 e3 e4 e5 e6 e7 e8 e9 e10 e11 e12 e13 e14 e15 e16 e17 e18 e19 e20 e21 e22 e23 : Nat} {s0 s1 s2 s3 s4 s5 s6 s7 s8 s9 s10 s11 s12 s13 s14 s15 s16 s17 s18 s19 s20 s21 s22 s23 : Bool} {q0 q1 q2 q3 q4 q5 q6 q7 : Rat} {z0 z1 z2 z3 z4 z5 z6 z7 z8 z9 z10 z11 : Int} {L L0 L1 x y : Nat} {k : Int} {b : Bool} {w : World}
variable {o0 o1 o2 o3 : Option Rat} {l l' : List Sp}
theorem setinv_v {v : Value} {b : Bool} {ts : List Rat} (h : TalV w L v (ob b) (alt (kb b) ts)) (hn : ts.length ≤ 4000) :
    Calls Tryz.prog 53 #[v] w fun e w' => ∃ y, e = .returned y ∧ TalV w' L y (ob (!b)) (alt (kb (!b)) ts) ∧ Below w.heap.size w w' := by
  have := inverse_v h (unit_alt _ (kb_unit b) _) (by rw [alt_len]; omega) (by have := ob_bd b; omega) (by have := ob_bd b; omega)
  rwa [negE_alt, kb_not, ob_not] at this
set_option maxRecDepth 100000 in
set_option maxHeartbeats 4000000 in
theorem ssub_v {va vb : Value} {b c : Bool} {ts us : List Rat} (hA : SetV w L va b ts) (hn : ts.length ≤ 4000) (hB : SetV w L vb c us) (hn' : us.length ≤ 4000) (hL2 : 2 ≤ L) (hL : L ≤ 100000) :
    Calls Tryz.prog 27 #[va, vb] w fun e w' => ∃ v, e = .returned (.tuple #[v, .nilIface]) ∧ OpV w' L v (fun x y => x && y) b ts (!c) us ∧ Below w.heap.size w w' := by
  go_enter Tryz.func27, Tryz.ntmps27
  go_wp2_with fail
  refine (setvalid_v hA hn hL).mono ?_
  rintro e w0 ⟨rfl, hb⟩
  replace hA := hA.below hb
  replace hB := hB.below hb
  have H0 := hb
  clear hb
  go_wp2_with fail
  refine (setvalid_v hB hn' hL).mono ?_
  rintro e w1 ⟨rfl, hb⟩
  replace hA := hA.below hb
  replace hB := hB.below hb
  replace H0 := H0.trans (hb.mono H0.size)
  clear hb
  go_wp2_with fail
  refine (settally_v hA hn).mono ?_
  rintro e w2 ⟨y1, rfl, h1, hb⟩
  replace hA := hA.below hb
  replace hB := hB.below hb
  replace H0 := H0.trans (hb.mono H0.size)
  clear hb
  go_wp2_with fail
  refine (settally_v hB hn').mono ?_
  rintro e w3 ⟨y2, rfl, h2, hb⟩
  replace hA := hA.below hb
  replace hB := hB.below hb
  replace h1 := h1.below hb
  replace H0 := H0.trans (hb.mono H0.size)
  clear hb
  go_wp2_with fail
  refine (setinv_v h2 hn').mono ?_
  rintro e w4 ⟨y3, rfl, h3, hb⟩
  replace hA := hA.below hb
  replace hB := hB.below hb
  replace h1 := h1.below hb
  replace h2 := h2.below hb
  replace H0 := H0.trans (hb.mono H0.size)
  clear hb
  go_wp2_with fail
  refine (setreach_v (fun x y => x && y) (by intro x y; cases x <;> cases y <;> rfl) h1 h3 hA.2 hB.2 hn hn' hL2 hL).mono ?_
  rintro e w5 ⟨v, rfl, h4, hb⟩
  replace hA := hA.below hb
  replace hB := hB.below hb
  replace h1 := h1.below hb
  replace h2 := h2.below hb
  replace h3 := h3.below hb
  replace H0 := H0.trans (hb.mono H0.size)
  clear hb
  go_wp2_with fail
  go_returns
  exact ⟨_, rfl, h4, H0⟩
set_option maxRecDepth 100000 in
set_option maxHeartbeats 4000000 in
theorem scompl_v {va : Value} {b : Bool} {ts : List Rat} (hA : SetV w L va b ts) (hn : ts.length ≤ 4000) (hL2 : 2 ≤ L) (hL : L ≤ 100000) :
    Calls Tryz.prog 16 #[va] w fun e w' => ∃ v, e = .returned (.tuple #[v, .nilIface]) ∧ OpV w' L v (fun x y => x || y) (!b) ts false [] ∧ Below w.heap.size w w' := by
  go_enter Tryz.func16, Tryz.ntmps16
  go_wp2_with fail
  refine (setvalid_v hA hn hL).mono ?_
  rintro e w0 ⟨rfl, hb⟩
  replace hA := hA.below hb
  have H0 := hb
  clear hb
  go_wp2_with fail
  refine (settally_v hA hn).mono ?_
  rintro e w1 ⟨y1, rfl, h1, hb⟩
  replace hA := hA.below hb
  replace H0 := H0.trans (hb.mono H0.size)
  clear hb
  go_wp2_with fail
  refine (setinv_v h1 hn).mono ?_
  rintro e w2 ⟨y3, rfl, h3, hb⟩
  replace hA := hA.below hb
  replace h1 := h1.below hb
  replace H0 := H0.trans (hb.mono H0.size)
  clear hb
  go_wp2_with fail
  refine (setreach_v (c := false) (us := []) (fun x y => x || y) (by intro x y; cases x <;> cases y <;> rfl) h3 (tal_zero _ _) hA.2 trivial hn (Nat.zero_le _) hL2 hL).mono ?_
  rintro e w3 ⟨v, rfl, h4, hb⟩
  replace hA := hA.below hb
  replace h1 := h1.below hb
  replace h3 := h3.below hb
  replace H0 := H0.trans (hb.mono H0.size)
  clear hb
  go_wp2_with fail
  go_returns
  exact ⟨_, rfl, h4, H0⟩
set_option maxRecDepth 100000 in
set_option maxHeartbeats 4000000 in
theorem combine_and {va vb : Value} {la lb : List Sp} (hA : SrS w L va la) (hB : SrS w L vb lb) (hn : la.length + lb.length ≤ 400) (hL : L ≤ 40) :
    Calls Tryz.prog 29 #[.int .i64 2, va, vb] w fun e w' => ∃ y, e = .returned y ∧ SrS w' L y (fromG [] false none (endsT [] (la ++ lb)) ((probesT (endsT [] (la ++ lb))).map (fun q => ((clsL la q : Int) == 2) && ((clsL lb q : Int) == 2)))) ∧ Below w.heap.size w w' := by
  obtain ⟨A, c, rfl, hc1, hc2⟩ := hA.form
  obtain ⟨A', c', rfl, hc3, hc4⟩ := hB.form
  unfold maxLen at hc2 hc4
  have HA := Lib.hid hA
  have HB := Lib.hid hB
  obtain ⟨cssa, hra, haa⟩ := hA
  obtain ⟨cssb, hrb, hab⟩ := hB
  have HLA := Lib.hid (All2.len haa)
  have HLB := Lib.hid (All2.len hab)
  replace haa : SrL w L cssa la := haa
  replace hab : SrL w L cssb lb := hab
  have hca := sre_cells haa
  have hcb := sre_cells hab
  have HRA := Lib.hid hra
  have HRB := Lib.hid hrb
  clear hra hrb
  obtain ⟨W0, hW, b0, hb0, hs0⟩ := boxes1 w #[] 39
  have hown : OwnE W0 w.heap.size 39 8 (.slice (some ⟨w.heap.size, 0, none⟩) 0 0) [] := b0.owne (Nat.le_refl _)
  have lB0 : w.heap.size ≤ W0.heap.size := hb0.size
  have ln0 : ([] : List (List Value)).length + cssa.length ≤ 200000 := by have := HLA.out; simp; omega
  have ln1 : cssa.length + cssb.length ≤ 200000 := by have := HLA.out; have := HLB.out; omega
  clear b0 hs0
  have hcl := (endsT_spec (la ++ lb) [] trivial).2.2.2.1
  rw [List.length_append] at hcl
  simp only [List.length_nil] at hcl
  have hpl := probes_len (endsT [] (la ++ lb))
  generalize hcuts : endsT [] (la ++ lb) = cuts at hcl hpl ⊢
  have HCU := Lib.hid hcuts
  generalize hps : probesT cuts = ps at hpl ⊢
  have HPS := Lib.hid hps
  have HPL := Lib.hid hpl
  clear hcuts hps hpl
  go_enter Tryz.func29, Tryz.ntmps29
  go_wp2_with (at_builtin; first | (refine wpList_append_rows (v := .slice (some ⟨w.heap.size, 0, none⟩) 0 0) (css := []) (css' := cssa) rfl _ _ rfl elem_s6 w.heap.size rfl hown rfl (HRA.out.below hb0) hca ln0 lB0 ?_; intro v1 w1 hown1 hg1; have hb1 := hb0.trans (hown.trod hg1 lB0); rw [List.nil_append] at hown1; obtain ⟨A1_, c1_, rfl, hx1, hx2⟩ := hown1.form; clear hx1 hx2) | (refine wpList_append_rows (v := .slice A1_ cssa.length c1_) (css := cssa) (css' := cssb) rfl _ _ rfl elem_s6 w.heap.size rfl hown1 rfl (HRB.out.below hb1) hcb ln1 hb1.size ?_; intro v2 w2 hown2 hg2; have hb2 := hb1.trans (hown1.trod hg2 hb1.size)))
  have hSS : SrS w2 L v2 (la ++ lb) := ⟨_, hown2.read, All2.app (haa.below hb2) (hab.below hb2)⟩
  clear hW hown hown1 hown2 hg1 hg2 hb0 hb1 haa hab hca hcb HRA HRB lB0 ln0 ln1
  refine (ends_v hSS (by simp; omega) hL).mono ?_
  rintro e w3 ⟨y1, rfl, hC, hb3⟩
  replace hb3 := hb2.trans (hb3.mono hb2.size)
  clear hSS hb2
  rw [HCU.out] at hC
  go_wp2_with fail
  have hP : Calls Tryz.prog 66 #[y1] w3 fun e w' => ∃ y, e = .returned y ∧ QS w' (2 * max L 2 + 3) y (probesT cuts) ∧ Below w3.heap.size w3 w' := by
    clear HCU HPS HPL
    cases cuts with
    | nil => exact probes_nil hC
    | cons q0 qs => exact probes_v hC (by omega) hL
  refine hP.mono ?_
  rintro e w4 ⟨y2, rfl, hQ, hb4⟩
  clear hP
  have HC := Lib.hid (hC.below hb4)
  replace hb4 := hb3.trans (hb4.mono hb3.size)
  clear hC hb3
  have HA4 := Lib.hid (HA.out.below hb4)
  have HB4 := Lib.hid (HB.out.below hb4)
  have HBL := Lib.hid hb4
  clear HA HB hb4
  rw [HPS.out] at hQ
  obtain ⟨A2, c2, rfl, hc5, hc6⟩ := hQ.form
  unfold maxLen at hc6
  have hpn : ps.length ≤ 10000 := by have := HPL.out; omega
  have HQP := Lib.hid hQ
  clear hQ
  go_wp2_with fail
  go_loopw [8, 23] (fun t8 t23 wr => ∃ (i : Nat) (A9 : Option Addr) (c9 : Nat) (css : List (List Value)), i ≤ ps.length ∧ t23 = .int .i64 (i : Int) ∧ t8 = .slice A9 css.length c9 ∧ OwnE wr w4.heap.size 4 1 (.slice A9 css.length c9) css ∧ css = ((ps.take i).map (fun q => ((clsL la q : Int) == 2) && ((clsL lb q : Int) == 2))).map (fun m => [Value.bool m]) ∧ Below w4.heap.size w4 wr) (fun _ t23 _ => ps.length - (intOf t23).toNat)
  case atStart => exact ⟨0, none, 0, [], Nat.zero_le _, rfl, rfl, OwnE.nil _ _ _ _, rfl, Below.refl _ _⟩
  case round =>
    obtain ⟨i, A9, c9, css, hi, rfl, rfl, hown, hcss, H0⟩ := hrel
    have HCSS := Lib.hid hcss
    have hcl9 : css.length ≤ i := by rw [hcss, List.length_map, List.length_map]; exact List.length_take_le _ _
    clear hcss
    by_cases hlt : i < ps.length
    · obtain ⟨q, hq⟩ : ∃ q, ps[i]? = some q := ⟨_, List.getElem?_eq_getElem hlt⟩
      obtain ⟨g, o, s4, A4, n4, c4, D4, m4, e4, rfl, cc0, cc1, cc2, kq⟩ := (HQP.out.below H0).elem hq
      obtain ⟨x, hx⟩ : ∃ x, ((clsL la q : Int) == 2) = x := ⟨_, rfl⟩
      obtain ⟨y, hy⟩ : ∃ x, ((clsL lb q : Int) == 2) = x := ⟨_, rfl⟩
      have HX := Lib.hid hx
      have HY := Lib.hid hy
      clear hx hy
      have HT : Hid (((ps.take (i + 1)).map (fun q => ((clsL la q : Int) == 2) && ((clsL lb q : Int) == 2))).map (fun m => [Value.bool m]) = css ++ [[Value.bool (x && y)]]) := Lib.hid (by rw [List.take_add_one, hq, List.map_append, List.map_append, ← HCSS.out, ← HX.out, ← HY.out]; rfl)
      clear hq
      obtain ⟨W5, hW5, b10, hb10, hs10⟩ := boxes1 wr #[.bool s4, .slice A4 n4 c4, .slice D4 m4 e4] 37
      have hn10 := hown.ne' (Nat.le_refl _)
      replace hown := hown.below hb10
      replace kq := kq.below hb10
      replace H0 := H0.trans (hb10.mono H0.size)
      clear hs10 hb10
      have hA5 := HA4.out.below H0
      have hB5 := HB4.out.below H0
      go_wp2_with fail
      clear hW5 cc0 cc1 cc2
      have hD := drawn_below W5
      replace kq := kq.below hD
      replace hA5 := hA5.below hD
      replace hB5 := hB5.below hD
      replace hown := hown.below hD
      replace b10 := b10.below hD
      replace H0 := H0.trans (hD.mono H0.size)
      clear hD
      refine wp_region_noPanic ?_
      refine wp_region_held_drew (S := (fun V => V.cell? ⟨wr.heap.size, 0, none⟩ = some (.bool s4) ∧ V.cell? ⟨wr.heap.size, 1, none⟩ = some (.slice A4 n4 c4) ∧ V.cell? ⟨wr.heap.size, 2, none⟩ = some (.slice D4 m4 e4))) (by kernel_rfl) ⟨b10.cell 0 _ rfl, b10.cell 1 _ rfl, b10.cell 2 _ rfl⟩ (fun hHeld => ?_)
      generalize W5.drew = v600 at H0 hHeld kq hA5 hB5 hown b10 ⊢
      refine wpAnyH_take (i := 0) (v := ?_) rfl (by kernel_rfl) (by kernel_rfl) (by kernel_rfl) (fun _ _ _ h => h) (Or.inl ⟨by rfl, ?_⟩) (by assumption) ?_
      rotate_left
      · (intro w hSw; (try dsimp only at hSw); go_simp; (try with_reducible rfl))
      (try simp only [List.getElem_toArray, List.getElem_cons_zero, Act.put, List.setIfInBounds_toArray, List.set_cons_zero, List.set_cons_succ])
      refine wpAnyH_take (i := 1) (v := ?_) rfl (by kernel_rfl) (by kernel_rfl) (by kernel_rfl) (fun _ _ _ h => h) (Or.inl ⟨by rfl, ?_⟩) (by assumption) ?_
      rotate_left
      · (intro w hSw; (try dsimp only at hSw); go_simp; (try with_reducible rfl))
      (try simp only [List.getElem_toArray, List.getElem_cons_succ, List.getElem_cons_zero, Act.put, List.setIfInBounds_toArray, List.set_cons_zero, List.set_cons_succ])
      refine wpAnyH_take (i := 3) (v := ?_) rfl (by kernel_rfl) (by kernel_rfl) (by kernel_rfl) (fun _ _ _ h => h) (Or.inl ⟨by rfl, ?_⟩) (by assumption) ?_
      rotate_left
      · (intro w hSw; (try dsimp only at hSw); go_simp; (try with_reducible rfl))
      (try simp only [List.getElem_toArray, List.getElem_cons_succ, List.getElem_cons_zero, Act.put, List.setIfInBounds_toArray, List.set_cons_zero, List.set_cons_succ])
      refine wpAnyH_take (i := 4) (v := ?_) rfl (by kernel_rfl) (by kernel_rfl) (by kernel_rfl) (fun _ _ _ h => h) (Or.inl ⟨by rfl, ?_⟩) (by assumption) ?_
      rotate_left
      · (intro w hSw; (try dsimp only at hSw); go_simp; (try with_reducible rfl))
      (try simp only [List.getElem_toArray, List.getElem_cons_succ, List.getElem_cons_zero, Act.put, List.setIfInBounds_toArray, List.set_cons_zero, List.set_cons_succ])
      refine wpAnyH_ready (rs := [2]) (by kernel_rfl) (by simp) (AllReadyH.cons (o := _) rfl (fun K hK => ?_) AllReadyH.nil)
      go_simp
      go_at_call 67
      refine (in_x HX.out hA5 kq (by omega) (by omega)).mono ?_
      rintro e w601 ⟨rfl, hb⟩
      replace kq := kq.below hb
      replace hA5 := hA5.below hb
      replace hB5 := hB5.below hb
      replace hown := hown.below hb
      replace b10 := b10.below hb
      replace H0 := H0.trans (hb.mono H0.size)
      clear hb
      go_wp2_with fail
      refine hK.out _ _ ⟨b10.cell 0 _ rfl, b10.cell 1 _ rfl, b10.cell 2 _ rfl⟩ (fun hHeld => ?_)
      clear hK K
      (try simp only [List.getElem_toArray, List.getElem_cons_succ, List.getElem_cons_zero, Act.put, List.setIfInBounds_toArray, List.set_cons_zero, List.set_cons_succ])
      refine wpAnyH_ready (rs := [5]) (by kernel_rfl) (by simp) (AllReadyH.cons (o := _) rfl (fun K hK => ?_) AllReadyH.nil)
      go_simp
      go_at_call 67
      refine (in_x HY.out hB5 kq (by omega) (by omega)).mono ?_
      rintro e w602 ⟨rfl, hb⟩
      replace kq := kq.below hb
      replace hA5 := hA5.below hb
      replace hB5 := hB5.below hb
      replace hown := hown.below hb
      replace b10 := b10.below hb
      replace H0 := H0.trans (hb.mono H0.size)
      clear hb
      go_wp2_with fail
      refine hK.out _ _ ⟨b10.cell 0 _ rfl, b10.cell 1 _ rfl, b10.cell 2 _ rfl⟩ (fun hHeld => ?_)
      clear hK K
      (try simp only [List.getElem_toArray, List.getElem_cons_succ, List.getElem_cons_zero, Act.put, List.setIfInBounds_toArray, List.set_cons_zero, List.set_cons_succ])
      refine wpAnyH_take (i := 6) (v := ?_) rfl (by kernel_rfl) (by kernel_rfl) (by kernel_rfl) (fun _ _ _ h => h) (Or.inl ⟨by rfl, ?_⟩) (by assumption) ?_
      rotate_left
      · (intro w hSw; (try dsimp only at hSw); go_simp; (try with_reducible rfl))
      (try simp only [List.getElem_toArray, List.getElem_cons_succ, List.getElem_cons_zero, Act.put, List.setIfInBounds_toArray, List.set_cons_zero, List.set_cons_succ])
      refine wpAnyH_take (i := 7) (v := ?_) rfl (by kernel_rfl) (by kernel_rfl) (by kernel_rfl) (fun _ _ _ h => h) (Or.inl ⟨by rfl, ?_⟩) (by assumption) ?_
      rotate_left
      · (intro w hSw; (try dsimp only at hSw); go_simp; (try with_reducible rfl))
      (try simp only [List.getElem_toArray, List.getElem_cons_succ, List.getElem_cons_zero, Act.put, List.setIfInBounds_toArray, List.set_cons_zero, List.set_cons_succ])
      refine wpAnyH_done (by kernel_rfl) ?_ _
      refine NoPanic.normal ?_
      clear b10 kq hA5 hB5 hn10
      have lB1 : w4.heap.size ≤ w602.heap.size := H0.size
      have ln1 : css.length ≤ 100000 := by omega
      cases x <;> cases y
      · have hq1 : ([.bool false] : List Value).all (fun u => u.oneCell' && notInt u) = true := by simp [notInt, Value.oneCell']
        go_wp2_with (at_builtin; refine wpList_append_row (v := .slice A9 css.length c9) (css := css) rfl _ _ rfl elem_bool w4.heap.size [.bool false] rfl hown rfl rfl hq1 ln1 lB1 ?_; intro v1 w8 hown1 hg1)
        replace H0 := H0.trans (hown.trod hg1 lB1)
        have HT2 : Hid (css ++ [[.bool false]] = _) := Lib.hid HT.out.symm
        clear hown hg1 hq1 ln1 lB1 hcl9 HT
        generalize css ++ [[.bool false]] = cs1_ at hown1 HT2
        obtain ⟨A1_, c1_, rfl, hx1, hx2⟩ := hown1.form
        clear hx1 hx2
        go_wp2_with fail
        go_roundw
        case rel => exact ⟨i + 1, _, _, _, by omega, by go_num, rfl, hown1, HT2.out, H0⟩
        case measure => simp [intOf]; omega
      · have hq1 : ([.bool false] : List Value).all (fun u => u.oneCell' && notInt u) = true := by simp [notInt, Value.oneCell']
        go_wp2_with (at_builtin; refine wpList_append_row (v := .slice A9 css.length c9) (css := css) rfl _ _ rfl elem_bool w4.heap.size [.bool false] rfl hown rfl rfl hq1 ln1 lB1 ?_; intro v1 w8 hown1 hg1)
        replace H0 := H0.trans (hown.trod hg1 lB1)
        have HT2 : Hid (css ++ [[.bool false]] = _) := Lib.hid HT.out.symm
        clear hown hg1 hq1 ln1 lB1 hcl9 HT
        generalize css ++ [[.bool false]] = cs1_ at hown1 HT2
        obtain ⟨A1_, c1_, rfl, hx1, hx2⟩ := hown1.form
        clear hx1 hx2
        go_wp2_with fail
        go_roundw
        case rel => exact ⟨i + 1, _, _, _, by omega, by go_num, rfl, hown1, HT2.out, H0⟩
        case measure => simp [intOf]; omega
      · have hq1 : ([.bool false] : List Value).all (fun u => u.oneCell' && notInt u) = true := by simp [notInt, Value.oneCell']
        go_wp2_with (at_builtin; refine wpList_append_row (v := .slice A9 css.length c9) (css := css) rfl _ _ rfl elem_bool w4.heap.size [.bool false] rfl hown rfl rfl hq1 ln1 lB1 ?_; intro v1 w8 hown1 hg1)
        replace H0 := H0.trans (hown.trod hg1 lB1)
        have HT2 : Hid (css ++ [[.bool false]] = _) := Lib.hid HT.out.symm
        clear hown hg1 hq1 ln1 lB1 hcl9 HT
        generalize css ++ [[.bool false]] = cs1_ at hown1 HT2
        obtain ⟨A1_, c1_, rfl, hx1, hx2⟩ := hown1.form
        clear hx1 hx2
        go_wp2_with fail
        go_roundw
        case rel => exact ⟨i + 1, _, _, _, by omega, by go_num, rfl, hown1, HT2.out, H0⟩
        case measure => simp [intOf]; omega
      · have hq1 : ([.bool true] : List Value).all (fun u => u.oneCell' && notInt u) = true := by simp [notInt, Value.oneCell']
        go_wp2_with (at_builtin; refine wpList_append_row (v := .slice A9 css.length c9) (css := css) rfl _ _ rfl elem_bool w4.heap.size [.bool true] rfl hown rfl rfl hq1 ln1 lB1 ?_; intro v1 w8 hown1 hg1)
        replace H0 := H0.trans (hown.trod hg1 lB1)
        have HT2 : Hid (css ++ [[.bool true]] = _) := Lib.hid HT.out.symm
        clear hown hg1 hq1 ln1 lB1 hcl9 HT
        generalize css ++ [[.bool true]] = cs1_ at hown1 HT2
        obtain ⟨A1_, c1_, rfl, hx1, hx2⟩ := hown1.form
        clear hx1 hx2
        go_wp2_with fail
        go_roundw
        case rel => exact ⟨i + 1, _, _, _, by omega, by go_num, rfl, hown1, HT2.out, H0⟩
        case measure => simp [intOf]; omega
    · obtain rfl : i = ps.length := by omega
      have hM : MS wr (.slice A9 css.length c9) (ps.map (fun q => ((clsL la q : Int) == 2) && ((clsL lb q : Int) == 2))) := by
        have h1 := hown.read
        have h2 := HCSS.out
        rw [List.take_length] at h2
        unfold MS
        rw [← h2]; exact h1
      have hC := HC.out.below H0
      clear hown
      go_wp2_with fail
      refine (from_v hC hM (by rw [List.length_map]; exact HPL.out) (by omega)).mono ?_
      rintro e w9 ⟨y, rfl, hF, hb⟩
      go_wp2_with fail
      go_ret
      exact ⟨_, rfl, hF, HBL.out.trans ((H0.trans (hb.mono H0.size)).mono HBL.out.size)⟩
set_option maxRecDepth 100000 in
set_option maxHeartbeats 4000000 in
theorem combine_sub {va vb : Value} {la lb : List Sp} (hA : SrS w L va la) (hB : SrS w L vb lb) (hn : la.length + lb.length ≤ 400) (hL : L ≤ 40) :
    Calls Tryz.prog 29 #[.int .i64 3, va, vb] w fun e w' => ∃ y, e = .returned y ∧ SrS w' L y (fromG [] false none (endsT [] (la ++ lb)) ((probesT (endsT [] (la ++ lb))).map (fun q => ((clsL la q : Int) == 2) && !((clsL lb q : Int) == 2)))) ∧ Below w.heap.size w w' := by
  obtain ⟨A, c, rfl, hc1, hc2⟩ := hA.form
  obtain ⟨A', c', rfl, hc3, hc4⟩ := hB.form
  unfold maxLen at hc2 hc4
  have HA := Lib.hid hA
  have HB := Lib.hid hB
  obtain ⟨cssa, hra, haa⟩ := hA
  obtain ⟨cssb, hrb, hab⟩ := hB
  have HLA := Lib.hid (All2.len haa)
  have HLB := Lib.hid (All2.len hab)
  replace haa : SrL w L cssa la := haa
  replace hab : SrL w L cssb lb := hab
  have hca := sre_cells haa
  have hcb := sre_cells hab
  have HRA := Lib.hid hra
  have HRB := Lib.hid hrb
  clear hra hrb
  obtain ⟨W0, hW, b0, hb0, hs0⟩ := boxes1 w #[] 39
  have hown : OwnE W0 w.heap.size 39 8 (.slice (some ⟨w.heap.size, 0, none⟩) 0 0) [] := b0.owne (Nat.le_refl _)
  have lB0 : w.heap.size ≤ W0.heap.size := hb0.size
  have ln0 : ([] : List (List Value)).length + cssa.length ≤ 200000 := by have := HLA.out; simp; omega
  have ln1 : cssa.length + cssb.length ≤ 200000 := by have := HLA.out; have := HLB.out; omega
  clear b0 hs0
  have hcl := (endsT_spec (la ++ lb) [] trivial).2.2.2.1
  rw [List.length_append] at hcl
  simp only [List.length_nil] at hcl
  have hpl := probes_len (endsT [] (la ++ lb))
  generalize hcuts : endsT [] (la ++ lb) = cuts at hcl hpl ⊢
  have HCU := Lib.hid hcuts
  generalize hps : probesT cuts = ps at hpl ⊢
  have HPS := Lib.hid hps
  have HPL := Lib.hid hpl
  clear hcuts hps hpl
  go_enter Tryz.func29, Tryz.ntmps29
  go_wp2_with (at_builtin; first | (refine wpList_append_rows (v := .slice (some ⟨w.heap.size, 0, none⟩) 0 0) (css := []) (css' := cssa) rfl _ _ rfl elem_s6 w.heap.size rfl hown rfl (HRA.out.below hb0) hca ln0 lB0 ?_; intro v1 w1 hown1 hg1; have hb1 := hb0.trans (hown.trod hg1 lB0); rw [List.nil_append] at hown1; obtain ⟨A1_, c1_, rfl, hx1, hx2⟩ := hown1.form; clear hx1 hx2) | (refine wpList_append_rows (v := .slice A1_ cssa.length c1_) (css := cssa) (css' := cssb) rfl _ _ rfl elem_s6 w.heap.size rfl hown1 rfl (HRB.out.below hb1) hcb ln1 hb1.size ?_; intro v2 w2 hown2 hg2; have hb2 := hb1.trans (hown1.trod hg2 hb1.size)))
  have hSS : SrS w2 L v2 (la ++ lb) := ⟨_, hown2.read, All2.app (haa.below hb2) (hab.below hb2)⟩
  clear hW hown hown1 hown2 hg1 hg2 hb0 hb1 haa hab hca hcb HRA HRB lB0 ln0 ln1
  refine (ends_v hSS (by simp; omega) hL).mono ?_
  rintro e w3 ⟨y1, rfl, hC, hb3⟩
  replace hb3 := hb2.trans (hb3.mono hb2.size)
  clear hSS hb2
  rw [HCU.out] at hC
  go_wp2_with fail
  have hP : Calls Tryz.prog 66 #[y1] w3 fun e w' => ∃ y, e = .returned y ∧ QS w' (2 * max L 2 + 3) y (probesT cuts) ∧ Below w3.heap.size w3 w' := by
    clear HCU HPS HPL
    cases cuts with
    | nil => exact probes_nil hC
    | cons q0 qs => exact probes_v hC (by omega) hL
  refine hP.mono ?_
  rintro e w4 ⟨y2, rfl, hQ, hb4⟩
  clear hP
  have HC := Lib.hid (hC.below hb4)
  replace hb4 := hb3.trans (hb4.mono hb3.size)
  clear hC hb3
  have HA4 := Lib.hid (HA.out.below hb4)
  have HB4 := Lib.hid (HB.out.below hb4)
  have HBL := Lib.hid hb4
  clear HA HB hb4
  rw [HPS.out] at hQ
  obtain ⟨A2, c2, rfl, hc5, hc6⟩ := hQ.form
  unfold maxLen at hc6
  have hpn : ps.length ≤ 10000 := by have := HPL.out; omega
  have HQP := Lib.hid hQ
  clear hQ
  go_wp2_with fail
  go_loopw [8, 23] (fun t8 t23 wr => ∃ (i : Nat) (A9 : Option Addr) (c9 : Nat) (css : List (List Value)), i ≤ ps.length ∧ t23 = .int .i64 (i : Int) ∧ t8 = .slice A9 css.length c9 ∧ OwnE wr w4.heap.size 4 1 (.slice A9 css.length c9) css ∧ css = ((ps.take i).map (fun q => ((clsL la q : Int) == 2) && !((clsL lb q : Int) == 2))).map (fun m => [Value.bool m]) ∧ Below w4.heap.size w4 wr) (fun _ t23 _ => ps.length - (intOf t23).toNat)
  case atStart => exact ⟨0, none, 0, [], Nat.zero_le _, rfl, rfl, OwnE.nil _ _ _ _, rfl, Below.refl _ _⟩
  case round =>
    obtain ⟨i, A9, c9, css, hi, rfl, rfl, hown, hcss, H0⟩ := hrel
    have HCSS := Lib.hid hcss
    have hcl9 : css.length ≤ i := by rw [hcss, List.length_map, List.length_map]; exact List.length_take_le _ _
    clear hcss
    by_cases hlt : i < ps.length
    · obtain ⟨q, hq⟩ : ∃ q, ps[i]? = some q := ⟨_, List.getElem?_eq_getElem hlt⟩
      obtain ⟨g, o, s4, A4, n4, c4, D4, m4, e4, rfl, cc0, cc1, cc2, kq⟩ := (HQP.out.below H0).elem hq
      obtain ⟨x, hx⟩ : ∃ x, ((clsL la q : Int) == 2) = x := ⟨_, rfl⟩
      obtain ⟨y, hy⟩ : ∃ x, ((clsL lb q : Int) == 2) = x := ⟨_, rfl⟩
      have HX := Lib.hid hx
      have HY := Lib.hid hy
      clear hx hy
      have HT : Hid (((ps.take (i + 1)).map (fun q => ((clsL la q : Int) == 2) && !((clsL lb q : Int) == 2))).map (fun m => [Value.bool m]) = css ++ [[Value.bool (x && !y)]]) := Lib.hid (by rw [List.take_add_one, hq, List.map_append, List.map_append, ← HCSS.out, ← HX.out, ← HY.out]; rfl)
      clear hq
      obtain ⟨W5, hW5, b10, hb10, hs10⟩ := boxes1 wr #[.bool s4, .slice A4 n4 c4, .slice D4 m4 e4] 37
      have hn10 := hown.ne' (Nat.le_refl _)
      replace hown := hown.below hb10
      replace kq := kq.below hb10
      replace H0 := H0.trans (hb10.mono H0.size)
      clear hs10 hb10
      have hA5 := HA4.out.below H0
      have hB5 := HB4.out.below H0
      go_wp2_with fail
      clear hW5 cc0 cc1 cc2
      have hD := drawn_below W5
      replace kq := kq.below hD
      replace hA5 := hA5.below hD
      replace hB5 := hB5.below hD
      replace hown := hown.below hD
      replace b10 := b10.below hD
      replace H0 := H0.trans (hD.mono H0.size)
      clear hD
      refine wp_region_noPanic ?_
      refine wp_region_held_drew (S := (fun V => V.cell? ⟨wr.heap.size, 0, none⟩ = some (.bool s4) ∧ V.cell? ⟨wr.heap.size, 1, none⟩ = some (.slice A4 n4 c4) ∧ V.cell? ⟨wr.heap.size, 2, none⟩ = some (.slice D4 m4 e4))) (by kernel_rfl) ⟨b10.cell 0 _ rfl, b10.cell 1 _ rfl, b10.cell 2 _ rfl⟩ (fun hHeld => ?_)
      generalize W5.drew = v600 at H0 hHeld kq hA5 hB5 hown b10 ⊢
      refine wpAnyH_take (i := 0) (v := ?_) rfl (by kernel_rfl) (by kernel_rfl) (by kernel_rfl) (fun _ _ _ h => h) (Or.inl ⟨by rfl, ?_⟩) (by assumption) ?_
      rotate_left
      · (intro w hSw; (try dsimp only at hSw); go_simp; (try with_reducible rfl))
      (try simp only [List.getElem_toArray, List.getElem_cons_zero, Act.put, List.setIfInBounds_toArray, List.set_cons_zero, List.set_cons_succ])
      refine wpAnyH_take (i := 1) (v := ?_) rfl (by kernel_rfl) (by kernel_rfl) (by kernel_rfl) (fun _ _ _ h => h) (Or.inl ⟨by rfl, ?_⟩) (by assumption) ?_
      rotate_left
      · (intro w hSw; (try dsimp only at hSw); go_simp; (try with_reducible rfl))
      (try simp only [List.getElem_toArray, List.getElem_cons_succ, List.getElem_cons_zero, Act.put, List.setIfInBounds_toArray, List.set_cons_zero, List.set_cons_succ])
      refine wpAnyH_take (i := 3) (v := ?_) rfl (by kernel_rfl) (by kernel_rfl) (by kernel_rfl) (fun _ _ _ h => h) (Or.inl ⟨by rfl, ?_⟩) (by assumption) ?_
      rotate_left
      · (intro w hSw; (try dsimp only at hSw); go_simp; (try with_reducible rfl))
      (try simp only [List.getElem_toArray, List.getElem_cons_succ, List.getElem_cons_zero, Act.put, List.setIfInBounds_toArray, List.set_cons_zero, List.set_cons_succ])
      refine wpAnyH_take (i := 4) (v := ?_) rfl (by kernel_rfl) (by kernel_rfl) (by kernel_rfl) (fun _ _ _ h => h) (Or.inl ⟨by rfl, ?_⟩) (by assumption) ?_
      rotate_left
      · (intro w hSw; (try dsimp only at hSw); go_simp; (try with_reducible rfl))
      (try simp only [List.getElem_toArray, List.getElem_cons_succ, List.getElem_cons_zero, Act.put, List.setIfInBounds_toArray, List.set_cons_zero, List.set_cons_succ])
      refine wpAnyH_ready (rs := [2]) (by kernel_rfl) (by simp) (AllReadyH.cons (o := _) rfl (fun K hK => ?_) AllReadyH.nil)
      go_simp
      go_at_call 67
      refine (in_x HX.out hA5 kq (by omega) (by omega)).mono ?_
      rintro e w601 ⟨rfl, hb⟩
      replace kq := kq.below hb
      replace hA5 := hA5.below hb
      replace hB5 := hB5.below hb
      replace hown := hown.below hb
      replace b10 := b10.below hb
      replace H0 := H0.trans (hb.mono H0.size)
      clear hb
      go_wp2_with fail
      refine hK.out _ _ ⟨b10.cell 0 _ rfl, b10.cell 1 _ rfl, b10.cell 2 _ rfl⟩ (fun hHeld => ?_)
      clear hK K
      (try simp only [List.getElem_toArray, List.getElem_cons_succ, List.getElem_cons_zero, Act.put, List.setIfInBounds_toArray, List.set_cons_zero, List.set_cons_succ])
      refine wpAnyH_ready (rs := [5]) (by kernel_rfl) (by simp) (AllReadyH.cons (o := _) rfl (fun K hK => ?_) AllReadyH.nil)
      go_simp
      go_at_call 67
      refine (in_x HY.out hB5 kq (by omega) (by omega)).mono ?_
      rintro e w602 ⟨rfl, hb⟩
      replace kq := kq.below hb
      replace hA5 := hA5.below hb
      replace hB5 := hB5.below hb
      replace hown := hown.below hb
      replace b10 := b10.below hb
      replace H0 := H0.trans (hb.mono H0.size)
      clear hb
      go_wp2_with fail
      refine hK.out _ _ ⟨b10.cell 0 _ rfl, b10.cell 1 _ rfl, b10.cell 2 _ rfl⟩ (fun hHeld => ?_)
      clear hK K
      (try simp only [List.getElem_toArray, List.getElem_cons_succ, List.getElem_cons_zero, Act.put, List.setIfInBounds_toArray, List.set_cons_zero, List.set_cons_succ])
      refine wpAnyH_take (i := 6) (v := ?_) rfl (by kernel_rfl) (by kernel_rfl) (by kernel_rfl) (fun _ _ _ h => h) (Or.inl ⟨by rfl, ?_⟩) (by assumption) ?_
      rotate_left
      · (intro w hSw; (try dsimp only at hSw); go_simp; (try with_reducible rfl))
      (try simp only [List.getElem_toArray, List.getElem_cons_succ, List.getElem_cons_zero, Act.put, List.setIfInBounds_toArray, List.set_cons_zero, List.set_cons_succ])
      refine wpAnyH_take (i := 7) (v := ?_) rfl (by kernel_rfl) (by kernel_rfl) (by kernel_rfl) (fun _ _ _ h => h) (Or.inl ⟨by rfl, ?_⟩) (by assumption) ?_
      rotate_left
      · (intro w hSw; (try dsimp only at hSw); go_simp; (try with_reducible rfl))
      (try simp only [List.getElem_toArray, List.getElem_cons_succ, List.getElem_cons_zero, Act.put, List.setIfInBounds_toArray, List.set_cons_zero, List.set_cons_succ])
      refine wpAnyH_done (by kernel_rfl) ?_ _
      refine NoPanic.normal ?_
      clear b10 kq hA5 hB5 hn10
      have lB1 : w4.heap.size ≤ w602.heap.size := H0.size
      have ln1 : css.length ≤ 100000 := by omega
      cases x <;> cases y
      · have hq1 : ([.bool false] : List Value).all (fun u => u.oneCell' && notInt u) = true := by simp [notInt, Value.oneCell']
        go_wp2_with (at_builtin; refine wpList_append_row (v := .slice A9 css.length c9) (css := css) rfl _ _ rfl elem_bool w4.heap.size [.bool false] rfl hown rfl rfl hq1 ln1 lB1 ?_; intro v1 w8 hown1 hg1)
        replace H0 := H0.trans (hown.trod hg1 lB1)
        have HT2 : Hid (css ++ [[.bool false]] = _) := Lib.hid HT.out.symm
        clear hown hg1 hq1 ln1 lB1 hcl9 HT
        generalize css ++ [[.bool false]] = cs1_ at hown1 HT2
        obtain ⟨A1_, c1_, rfl, hx1, hx2⟩ := hown1.form
        clear hx1 hx2
        go_wp2_with fail
        go_roundw
        case rel => exact ⟨i + 1, _, _, _, by omega, by go_num, rfl, hown1, HT2.out, H0⟩
        case measure => simp [intOf]; omega
      · have hq1 : ([.bool false] : List Value).all (fun u => u.oneCell' && notInt u) = true := by simp [notInt, Value.oneCell']
        go_wp2_with (at_builtin; refine wpList_append_row (v := .slice A9 css.length c9) (css := css) rfl _ _ rfl elem_bool w4.heap.size [.bool false] rfl hown rfl rfl hq1 ln1 lB1 ?_; intro v1 w8 hown1 hg1)
        replace H0 := H0.trans (hown.trod hg1 lB1)
        have HT2 : Hid (css ++ [[.bool false]] = _) := Lib.hid HT.out.symm
        clear hown hg1 hq1 ln1 lB1 hcl9 HT
        generalize css ++ [[.bool false]] = cs1_ at hown1 HT2
        obtain ⟨A1_, c1_, rfl, hx1, hx2⟩ := hown1.form
        clear hx1 hx2
        go_wp2_with fail
        go_roundw
        case rel => exact ⟨i + 1, _, _, _, by omega, by go_num, rfl, hown1, HT2.out, H0⟩
        case measure => simp [intOf]; omega
      · have hq1 : ([.bool true] : List Value).all (fun u => u.oneCell' && notInt u) = true := by simp [notInt, Value.oneCell']
        go_wp2_with (at_builtin; refine wpList_append_row (v := .slice A9 css.length c9) (css := css) rfl _ _ rfl elem_bool w4.heap.size [.bool true] rfl hown rfl rfl hq1 ln1 lB1 ?_; intro v1 w8 hown1 hg1)
        replace H0 := H0.trans (hown.trod hg1 lB1)
        have HT2 : Hid (css ++ [[.bool true]] = _) := Lib.hid HT.out.symm
        clear hown hg1 hq1 ln1 lB1 hcl9 HT
        generalize css ++ [[.bool true]] = cs1_ at hown1 HT2
        obtain ⟨A1_, c1_, rfl, hx1, hx2⟩ := hown1.form
        clear hx1 hx2
        go_wp2_with fail
        go_roundw
        case rel => exact ⟨i + 1, _, _, _, by omega, by go_num, rfl, hown1, HT2.out, H0⟩
        case measure => simp [intOf]; omega
      · have hq1 : ([.bool false] : List Value).all (fun u => u.oneCell' && notInt u) = true := by simp [notInt, Value.oneCell']
        go_wp2_with (at_builtin; refine wpList_append_row (v := .slice A9 css.length c9) (css := css) rfl _ _ rfl elem_bool w4.heap.size [.bool false] rfl hown rfl rfl hq1 ln1 lB1 ?_; intro v1 w8 hown1 hg1)
        replace H0 := H0.trans (hown.trod hg1 lB1)
        have HT2 : Hid (css ++ [[.bool false]] = _) := Lib.hid HT.out.symm
        clear hown hg1 hq1 ln1 lB1 hcl9 HT
        generalize css ++ [[.bool false]] = cs1_ at hown1 HT2
        obtain ⟨A1_, c1_, rfl, hx1, hx2⟩ := hown1.form
        clear hx1 hx2
        go_wp2_with fail
        go_roundw
        case rel => exact ⟨i + 1, _, _, _, by omega, by go_num, rfl, hown1, HT2.out, H0⟩
        case measure => simp [intOf]; omega
    · obtain rfl : i = ps.length := by omega
      have hM : MS wr (.slice A9 css.length c9) (ps.map (fun q => ((clsL la q : Int) == 2) && !((clsL lb q : Int) == 2))) := by
        have h1 := hown.read
        have h2 := HCSS.out
        rw [List.take_length] at h2
        unfold MS
        rw [← h2]; exact h1
      have hC := HC.out.below H0
      clear hown
      go_wp2_with fail
      refine (from_v hC hM (by rw [List.length_map]; exact HPL.out) (by omega)).mono ?_
      rintro e w9 ⟨y, rfl, hF, hb⟩
      go_wp2_with fail
      go_ret
      exact ⟨_, rfl, hF, HBL.out.trans ((H0.trans (hb.mono H0.size)).mono HBL.out.size)⟩
end
end Go.Proofs.YtpgkkkodniiilaaGreatDoor
