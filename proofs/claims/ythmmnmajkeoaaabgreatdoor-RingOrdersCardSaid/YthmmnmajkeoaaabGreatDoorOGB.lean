/-
  RgC, RgB in one text.
-/
import Derived.Test.YthmmnmajkeoaaabGreatDoorOPtF
import Derived.Test.YthmmnmajkeoaaabGreatDoorORgA
import Derived.IntWalk
namespace Go.Proofs.YthmmnmajkeoaaabGreatDoor
open Go.RowKit
section
variable {w : World} {L : Nat}
theorem normq_nq {s0 : Bool} {v u : Value} {q : Rat} (h : NQ w s0 v u q L) : normQB s0 (digs q.num.natAbs) (digs q.den) = true := by
  obtain ⟨⟨a1, a2⟩, a3⟩ := h
  subst a2
  unfold normQB normIB
  rw [normB_digs, normB_digs, val_digs, val_digs, decide_eq_false q.den_nz, decide_eq_true (show Nat.gcd q.num.natAbs q.den = 1 from q.reduced)]
  by_cases h : q.num < 0
  · have h2 := digs_length_pos (x := q.num.natAbs) (by omega)
    have h3 : ((digs q.num.natAbs).length == 0) = false := by rw [beq_eq_false_iff_ne]; omega
    rw [h3]; simp
  · rw [decide_eq_false h]; simp
theorem pnormal_d {x : PP} (h : x.nq w L) (hL : L ≤ 1000000) :
    Calls Tryz.prog 44 #[.agg #[.bool x.s0, .slice x.A0 x.n0 x.c0, .slice x.D0 x.m0 x.e0, .bool x.s1, .slice x.A1 x.n1 x.c1, .slice x.D1 x.m1 x.e1]] w fun e w' => e = .returned (.bool true) ∧ Below w.heap.size w w' := by
  obtain ⟨h0, h1⟩ := h
  have a1 := digs_length_le h0.1.1.2
  have a2 := digs_length_le h0.2.2
  have a3 := digs_length_le h1.1.1.2
  have a4 := digs_length_le h1.2.2
  exact pnormal_b h0.raw1 h0.raw2 h1.raw1 h1.raw2 (by omega) (by omega) (by omega) (by omega) (by rw [normq_nq h0, normq_nq h1]; rfl)
set_option maxRecDepth 100000 in
set_option maxHeartbeats 800000 in
theorem chk1_v {x : PP} (h : x.nq w L) (hL : L ≤ 1000000) :
    Calls Tryz.prog 43 #[.agg #[.bool x.s0, .slice x.A0 x.n0 x.c0, .slice x.D0 x.m0 x.e0, .bool x.s1, .slice x.A1 x.n1 x.c1, .slice x.D1 x.m1 x.e1]] w fun e w' => e = .returned (.bool false) ∧ Below w.heap.size w w' := by
  go_enter Tryz.func43, Tryz.ntmps43
  go_wp2_with fail
  obtain ⟨W0, hW, b1, hbW, hsz⟩ := boxes1 w #[.bool x.s0, .slice x.A0 x.n0 x.c0, .slice x.D0 x.m0 x.e0, .bool x.s1, .slice x.A1 x.n1 x.c1, .slice x.D1 x.m1 x.e1] 65
  rw [hW]
  clear hW hsz
  replace h := (firm_nq1 x L).below h hbW
  have x0 := b1.cell 0 _ rfl
  have x1 := b1.cell 1 _ rfl
  have x2 := b1.cell 2 _ rfl
  have x3 := b1.cell 3 _ rfl
  have x4 := b1.cell 4 _ rfl
  have x5 := b1.cell 5 _ rfl
  go_wp2_with fail
  refine (pnormal_d h hL).mono ?_
  rintro e w2 ⟨rfl, hb⟩
  clear x0 x1 x2 x3 x4 x5
  go_wp2_with fail
  go_returns
  exact ⟨rfl, hbW.trans (hb.mono hbW.size)⟩
set_option maxRecDepth 100000 in
set_option maxHeartbeats 2000000 in
theorem idxf_v {A : Option Addr} {n c : Nat} {zs : List PP} (hS : ReadR w 6 (.slice A n c) (rowsP zs)) (hF : FN w L zs) (hn : zs.length ≤ 90000) (hL : L ≤ 1000000) :
    Calls Tryz.prog 68 #[.slice A n c, .func (.func 43) #[] #[]] w fun e w' => e = .returned (.int .i64 (-1)) ∧ Below w.heap.size w w' := by
  obtain rfl := pp_len hS
  go_enter Tryz.func68, Tryz.ntmps68
  go_wp2_with fail
  go_loopw [8] (fun t8 wr => ∃ (i : Nat), i ≤ zs.length ∧ t8 = .int .i64 i ∧ Below w.heap.size w wr) (fun t8 _ => zs.length - (intOf t8).toNat)
  case atStart => exact ⟨0, Nat.zero_le _, rfl, Below.refl _ _⟩
  case round =>
    obtain ⟨i, hi, rfl, H0⟩ := hrel
    by_cases hlt : i < zs.length
    · obtain ⟨x, hx⟩ : ∃ s, zs[i]? = some s := ⟨_, List.getElem?_eq_getElem hlt⟩
      obtain ⟨g, o, rfl, cc0, cc1, cc2, cc3, cc4, cc5⟩ := pp_elem (hS.below H0) hx
      have y0 := (hF.below H0) x (List.mem_of_getElem? hx)
      clear hS hx hF
      unfold CellF at cc0 cc1 cc2 cc3 cc4 cc5
      go_wp2_with fail
      refine (chk1_v y0 hL).mono ?_
      rintro e w2 ⟨rfl, hb⟩
      replace H0 := H0.trans (hb.mono H0.size)
      clear hb y0 cc0 cc1 cc2 cc3 cc4 cc5
      go_wp2_with fail
      go_roundw
      case rel => exact ⟨i + 1, by omega, by go_num, H0⟩
      case measure => simp [intOf]; omega
    · obtain rfl : i = zs.length := by omega
      clear hS
      go_wp2_with fail
      go_ret
      exact ⟨rfl, H0⟩
set_option maxRecDepth 100000 in
theorem contf_v {A : Option Addr} {n c : Nat} {zs : List PP} (hS : ReadR w 6 (.slice A n c) (rowsP zs)) (hF : FN w L zs) (hn : zs.length ≤ 90000) (hL : L ≤ 1000000) :
    Calls Tryz.prog 42 #[.slice A n c, .func (.func 43) #[] #[]] w fun e w' => e = .returned (.bool false) ∧ Below w.heap.size w w' := by
  go_enter Tryz.func42, Tryz.ntmps42
  go_wp2_with fail
  refine (idxf_v hS hF hn hL).mono ?_
  rintro e w2 ⟨rfl, hb⟩
  go_wp2_with fail
  go_returns
  exact ⟨rfl, hb⟩
end
end Go.Proofs.YthmmnmajkeoaaabGreatDoor
namespace Go.Proofs.YthmmnmajkeoaaabGreatDoor
open Go.RowKit
section
variable {w : World} {L : Nat}
theorem topt_v {s0 s1 : Bool} {A0 A1 D0 D1 : Option Addr} {n0 n1 c0 c1 m0 m1 e0 e1 : Nat} {q0 q1 : Rat} (h : PQ w s0 (.slice A0 n0 c0) (.slice D0 m0 e0) q0 L) (h' : PQ w s1 (.slice A1 n1 c1) (.slice D1 m1 e1) q1 L) (hL : L ≤ 100000) :
    Calls Tryz.prog 23 #[.agg #[.bool s0, .slice A0 n0 c0, .slice D0 m0 e0, .bool s1, .slice A1 n1 c1, .slice D1 m1 e1]] w fun e w' => ∃ x : PP, e = .returned (.agg #[.bool x.s0, .slice x.A0 x.n0 x.c0, .slice x.D0 x.m0 x.e0, .bool x.s1, .slice x.A1 x.n1 x.c1, .slice x.D1 x.m1 x.e1]) ∧ x.pt = (q0, q1) ∧ x.nq w' (max L 1) ∧ Below w.heap.size w w' := by
  refine (gtop_v h h' hL).mono ?_
  rintro e w2 ⟨s2, A2, n2, c2, D2, m2, e2, s3, A3, n3, c3, D3, m3, e3, rfl, k0, k1, hb⟩
  exact ⟨⟨s2, A2, n2, c2, D2, m2, e2, s3, A3, n3, c3, D3, m3, e3, q0, q1⟩, rfl, rfl, ⟨k0, k1⟩, hb⟩
set_option maxRecDepth 100000 in
set_option maxHeartbeats 4000000 in
theorem topts_v {A : Option Addr} {n c : Nat} {zs : List PP} (hS : ReadR w 6 (.slice A n c) (rowsP zs)) (hF : FP w L zs) (hn : zs.length ≤ 90000) (hL : L ≤ 100000) :
    Calls Tryz.prog 7 #[.slice A n c] w fun e w' => ∃ A' c' ys, e = .returned (.slice A' ys.length c') ∧ ReadR w' 6 (.slice A' ys.length c') (rowsP ys) ∧ FN w' (max L 1) ys ∧ ys.map PP.pt = zs.map PP.pt ∧ Below w.heap.size w w' := by
  obtain rfl := pp_len hS
  go_enter Tryz.func7, Tryz.ntmps7
  go_wp2_with fail
  go_loopw [3, 8] (fun t3 t8 wr => ∃ (i : Nat) (A9 : Option Addr) (c9 : Nat) (ys : List PP), i ≤ zs.length ∧ t8 = .int .i64 i ∧ t3 = .slice A9 i c9 ∧ ys.length = i ∧ OwnE wr w.heap.size 65 6 (.slice A9 i c9) (rowsP ys) ∧ FN wr (max L 1) ys ∧ ys.map PP.pt = (zs.take i).map PP.pt ∧ Below w.heap.size w wr) (fun _ t8 _ => zs.length - (intOf t8).toNat)
  case atStart => exact ⟨0, none, 0, [], Nat.zero_le _, rfl, rfl, rfl, OwnE.nil _ _ _ _, (fun _ h => by cases h), rfl, Below.refl _ _⟩
  case round =>
    obtain ⟨i, A9, c9, ys, hi, rfl, rfl, hyl, hown, hall, hpt, H0⟩ := hrel
    by_cases hlt : i < zs.length
    · obtain ⟨x, hx⟩ : ∃ s, zs[i]? = some s := ⟨_, List.getElem?_eq_getElem hlt⟩
      obtain ⟨g, o, rfl, cc0, cc1, cc2, cc3, cc4, cc5⟩ := pp_elem (hS.below H0) hx
      obtain ⟨y0, y1⟩ := (hF.below H0) x (List.mem_of_getElem? hx)
      have HSP : Hid (zs.take (i + 1) = zs.take i ++ [x]) := Lib.hid (by rw [List.take_add_one, hx]; rfl)
      have HPT := Lib.hid hpt
      have HYL := Lib.hid hyl
      clear hS hx hF hpt hyl
      unfold CellF at cc0 cc1 cc2 cc3 cc4 cc5
      obtain ⟨W0, hW, b5, hbW, hsz⟩ := boxes1 wr #[.bool x.s0, .slice x.A0 x.n0 x.c0, .slice x.D0 x.m0 x.e0, .bool x.s1, .slice x.A1 x.n1 x.c1, .slice x.D1 x.m1 x.e1] 51
      clear hsz
      replace hown := hown.below hbW
      replace hall := hall.below hbW
      replace y0 := y0.below hbW
      replace y1 := y1.below hbW
      replace H0 := H0.trans (hbW.mono H0.size)
      have x0 := b5.cell 0 _ rfl
      have x1 := b5.cell 1 _ rfl
      have x2 := b5.cell 2 _ rfl
      have x3 := b5.cell 3 _ rfl
      have x4 := b5.cell 4 _ rfl
      have x5 := b5.cell 5 _ rfl
      go_wp2_with fail
      clear hW hbW b5 x0 cc0 x1 cc1 x2 cc2 x3 cc3 x4 cc4 x5 cc5
      refine (topt_v y0 y1 hL).mono ?_
      rintro e w2 ⟨z, rfl, hz, k0, hb⟩
      replace hown := hown.below hb
      replace hall := hall.below hb
      replace H0 := H0.trans (hb.mono H0.size)
      clear hb y0 y1
      have hq1 : (z.cells : List Value).all (fun u => u.oneCell' && notInt u) = true := by simp [notInt, Value.oneCell', PP.cells]
      have ln1 : (rowsP ys).length ≤ 100000 := by rw [rowsP_len, HYL.out]; omega
      have lB1 : w.heap.size ≤ w2.heap.size := H0.size
      go_wp2_with (at_builtin; refine wpList_append_row (v := .slice A9 i c9) (css := rowsP ys) rfl _ _ rfl elem_pt w.heap.size [.bool z.s0, .slice z.A0 z.n0 z.c0, .slice z.D0 z.m0 z.e0, .bool z.s1, .slice z.A1 z.n1 z.c1, .slice z.D1 z.m1 z.e1] rfl hown rfl rfl hq1 ln1 lB1 ?_; intro v1 w3 hown1 hg1)
      have hall1 : FN w3 (max L 1) (ys ++ [z]) := (hall.own hown hg1).snoc ((firm_nq1 z _).own k0 hown.2.2 hg1)
      have H01 := H0.trans (hown.trod hg1 lB1)
      replace hown1 : OwnE w3 w.heap.size 65 6 v1 (rowsP (ys ++ [z])) := by rw [← rowsP_snoc]; exact hown1
      have hl1 : (rowsP (ys ++ [z])).length = i + 1 := by rw [rowsP_len, List.length_append, HYL.out]; rfl
      obtain ⟨A1_, c1_, hv1, hx1, hx2⟩ := hown1.form
      rw [hl1] at hv1
      subst hv1
      clear hx1 hx2 hown hall k0 hg1 H0 ln1 lB1 hl1 hq1
      go_wp2_with fail
      go_roundw
      case rel => exact ⟨i + 1, _, _, ys ++ [z], by omega, by go_num, by go_num, by rw [List.length_append, HYL.out]; rfl, hown1, hall1, by rw [HSP.out, List.map_append, List.map_append, HPT.out, List.map_cons, List.map_cons, hz]; rfl, H01⟩
      case measure => simp [intOf]; omega
    · obtain rfl : i = zs.length := by omega
      clear hS
      rw [List.take_length] at hpt
      go_wp2_with fail
      go_ret
      refine ⟨A9, c9, ys, by rw [hyl]; rfl, ?_, hall, hpt, H0⟩
      rw [hyl]; exact hown.read
end
end Go.Proofs.YthmmnmajkeoaaabGreatDoor
