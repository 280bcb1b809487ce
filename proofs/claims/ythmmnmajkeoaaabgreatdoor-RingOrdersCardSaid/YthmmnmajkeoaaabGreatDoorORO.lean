/-
  RoA, RoB, RoD, RoC in one text.
-/
import Derived.Test.YthmmnmajkeoaaabGreatDoorOGF
import Derived.Test.YthmmnmajkeoaaabGreatDoorOGM
import Derived.IntWalk
import Derived.Deep.Cut
namespace Go.Proofs.YthmmnmajkeoaaabGreatDoor
open Go.RowKit
section
variable {w : World} {L : Nat}
theorem pnorm_p {x : PP} (h : x.nq w L) (hL : L ≤ 100000) :
    Calls Tryz.prog 47 #[.agg #[.bool x.s0, .slice x.A0 x.n0 x.c0, .slice x.D0 x.m0 x.e0, .bool x.s1, .slice x.A1 x.n1 x.c1, .slice x.D1 x.m1 x.e1]] w fun e w' => ∃ y : PP, e = .returned (.agg #[.bool y.s0, .slice y.A0 y.n0 y.c0, .slice y.D0 y.m0 y.e0, .bool y.s1, .slice y.A1 y.n1 y.c1, .slice y.D1 y.m1 y.e1]) ∧ y.pt = x.pt ∧ y.nq w' (max L 2) ∧ Below w.heap.size w w' := by
  refine (pnorm_v h.1.rq h.2.rq (by omega)).mono ?_
  rintro e w2 ⟨s2, A2, n2, c2, D2, m2, e2, s3, A3, n3, c3, D3, m3, e3, rfl, k0, k1, hb⟩
  exact ⟨⟨s2, A2, n2, c2, D2, m2, e2, s3, A3, n3, c3, D3, m3, e3, x.q0, x.q1⟩, rfl, rfl, ⟨k0, k1⟩, hb⟩
set_option maxRecDepth 100000 in
set_option maxHeartbeats 4000000 in
theorem copy_v {A : Option Addr} {n c : Nat} {zs : List PP} (hS : ReadR w 6 (.slice A n c) (rowsP zs)) (hF : FN w L zs) (hn : zs.length ≤ 90000) (hL : L ≤ 100000) :
    Calls Tryz.prog 26 #[.slice A n c] w fun e w' => ∃ A' c' ys, e = .returned (.slice A' ys.length c') ∧ ReadR w' 6 (.slice A' ys.length c') (rowsP ys) ∧ FN w' (max L 2) ys ∧ ys.map PP.pt = zs.map PP.pt ∧ Below w.heap.size w w' := by
  obtain rfl := pp_len hS
  go_enter Tryz.func26, Tryz.ntmps26
  go_wp2_with fail
  go_loopw [3, 8] (fun t3 t8 wr => ∃ (i : Nat) (A9 : Option Addr) (c9 : Nat) (ys : List PP), i ≤ zs.length ∧ t8 = .int .i64 i ∧ t3 = .slice A9 i c9 ∧ ys.length = i ∧ OwnE wr w.heap.size 65 6 (.slice A9 i c9) (rowsP ys) ∧ FN wr (max L 2) ys ∧ ys.map PP.pt = (zs.take i).map PP.pt ∧ Below w.heap.size w wr) (fun _ t8 _ => zs.length - (intOf t8).toNat)
  case atStart => exact ⟨0, none, 0, [], Nat.zero_le _, rfl, rfl, rfl, OwnE.nil _ _ _ _, (fun _ h => by cases h), rfl, Below.refl _ _⟩
  case round =>
    obtain ⟨i, A9, c9, ys, hi, rfl, rfl, hyl, hown, hall, hpt, H0⟩ := hrel
    by_cases hlt : i < zs.length
    · obtain ⟨x, hx⟩ : ∃ s, zs[i]? = some s := ⟨_, List.getElem?_eq_getElem hlt⟩
      obtain ⟨g, o, rfl, cc0, cc1, cc2, cc3, cc4, cc5⟩ := pp_elem (hS.below H0) hx
      obtain ⟨y0, y1⟩ := (hF.below H0) x (List.mem_of_getElem? hx)
      have HSP : Hid (zs.take (i + 1) = zs.take i ++ [x]) := Lib.hid (by rw [List.take_add_one, hx]; rfl)
      have HPT := Lib.hid hpt
      have HYL := Lib.hid hyl
      clear hS hx hF hpt hyl
      unfold CellF at cc0 cc1 cc2 cc3 cc4 cc5
      obtain ⟨W0, hW, b5, hbW, hsz⟩ := boxes1 wr #[.bool x.s0, .slice x.A0 x.n0 x.c0, .slice x.D0 x.m0 x.e0, .bool x.s1, .slice x.A1 x.n1 x.c1, .slice x.D1 x.m1 x.e1] 65
      clear hsz
      replace hown := hown.below hbW
      replace hall := hall.below hbW
      replace y0 := y0.below hbW
      replace y1 := y1.below hbW
      replace H0 := H0.trans (hbW.mono H0.size)
      have x0 := b5.cell 0 _ rfl
      have x1 := b5.cell 1 _ rfl
      have x2 := b5.cell 2 _ rfl
      have x3 := b5.cell 3 _ rfl
      have x4 := b5.cell 4 _ rfl
      have x5 := b5.cell 5 _ rfl
      go_wp2_with fail
      clear hW hbW b5 x0 cc0 x1 cc1 x2 cc2 x3 cc3 x4 cc4 x5 cc5
      refine (pnorm_p (x := x) ⟨y0, y1⟩ hL).mono ?_
      rintro e w2 ⟨z, rfl, hz, k0, hb⟩
      replace hown := hown.below hb
      replace hall := hall.below hb
      replace H0 := H0.trans (hb.mono H0.size)
      clear hb y0 y1
      have hq1 : (z.cells : List Value).all (fun u => u.oneCell' && notInt u) = true := by simp [notInt, Value.oneCell', PP.cells]
      have ln1 : (rowsP ys).length ≤ 100000 := by rw [rowsP_len, HYL.out]; omega
      have lB1 : w.heap.size ≤ w2.heap.size := H0.size
      go_wp2_with (at_builtin; refine wpList_append_row (v := .slice A9 i c9) (css := rowsP ys) rfl _ _ rfl elem_ring w.heap.size [.bool z.s0, .slice z.A0 z.n0 z.c0, .slice z.D0 z.m0 z.e0, .bool z.s1, .slice z.A1 z.n1 z.c1, .slice z.D1 z.m1 z.e1] rfl hown rfl rfl hq1 ln1 lB1 ?_; intro v1 w3 hown1 hg1)
      have hall1 : FN w3 (max L 2) (ys ++ [z]) := (hall.own hown hg1).snoc ((firm_nq1 z _).own k0 hown.2.2 hg1)
      have H01 := H0.trans (hown.trod hg1 lB1)
      replace hown1 : OwnE w3 w.heap.size 65 6 v1 (rowsP (ys ++ [z])) := by rw [← rowsP_snoc]; exact hown1
      have hl1 : (rowsP (ys ++ [z])).length = i + 1 := by rw [rowsP_len, List.length_append, HYL.out]; rfl
      obtain ⟨A1_, c1_, hv1, hx1, hx2⟩ := hown1.form
      rw [hl1] at hv1
      subst hv1
      clear hx1 hx2 hown hall k0 hg1 H0 ln1 lB1 hl1 hq1
      go_wp2_with fail
      go_roundw
      case rel => exact ⟨i + 1, _, _, ys ++ [z], by omega, by go_num, by go_num, by rw [List.length_append, HYL.out]; rfl, hown1, hall1, by rw [HSP.out, List.map_append, List.map_append, HPT.out, List.map_cons, List.map_cons, hz], H01⟩
      case measure => simp [intOf]; omega
    · obtain rfl : i = zs.length := by omega
      clear hS
      rw [List.take_length] at hpt
      go_wp2_with fail
      go_ret
      refine ⟨A9, c9, ys, by rw [hyl]; rfl, ?_, hall, hpt, H0⟩
      rw [hyl]; exact hown.read
set_option maxRecDepth 100000 in
set_option maxHeartbeats 2000000 in
theorem sameps_v {A A' : Option Addr} {n c n' c' L' : Nat} {zs ys : List PP} (hS : ReadR w 6 (.slice A n c) (rowsP zs)) (hF : FN w L zs) (hS' : ReadR w 6 (.slice A' n' c') (rowsP ys)) (hF' : FN w L' ys) (he : zs.map PP.pt = ys.map PP.pt) (hn : zs.length ≤ 90000) :
    Calls Tryz.prog 11 #[.slice A n c, .slice A' n' c'] w fun e w' => e = .returned (.bool true) ∧ Below w.heap.size w w' := by
  obtain rfl := pp_len hS
  obtain rfl := pp_len hS'
  have hl : ys.length = zs.length := by have := congrArg List.length he; simpa using this.symm
  have HE := Lib.hid he
  rw [hl] at hS' ⊢
  have HL := Lib.hid hl
  clear he hl
  go_enter Tryz.func11, Tryz.ntmps11
  go_wp2_with fail
  go_loopw [13] (fun t13 wr => ∃ (i : Nat), i ≤ zs.length ∧ t13 = .int .i64 (i : Int) ∧ Below w.heap.size w wr) (fun t13 _ => zs.length - (intOf t13).toNat)
  case atStart => exact ⟨0, Nat.zero_le _, rfl, Below.refl _ _⟩
  case round =>
    obtain ⟨i, hi, rfl, H0⟩ := hrel
    by_cases hlt : i < zs.length
    · obtain ⟨x, hx⟩ : ∃ s, zs[i]? = some s := ⟨_, List.getElem?_eq_getElem hlt⟩
      obtain ⟨y, hy⟩ : ∃ s, ys[i]? = some s := ⟨_, List.getElem?_eq_getElem (by rw [HL.out]; exact hlt)⟩
      have hxy : x.pt = y.pt := by
        have h1 := congrArg (fun l => l[i]?) HE.out
        simp only [List.getElem?_map, hx, hy, Option.map_some] at h1
        exact Option.some.inj h1
      obtain ⟨g, o, rfl, e0, e1, e2, e3, e4, e5⟩ := pp_elem (hS.below H0) hx
      obtain ⟨g', o', rfl, f0, f1, f2, f3, f4, f5⟩ := pp_elem (hS'.below H0) hy
      obtain ⟨p0, p1⟩ := (hF.below H0) x (List.mem_of_getElem? hx)
      obtain ⟨q0, q1⟩ := (hF'.below H0) y (List.mem_of_getElem? hy)
      have hx0 : x.q0 = y.q0 := congrArg Prod.fst hxy
      have hx1 : x.q1 = y.q1 := congrArg Prod.snd hxy
      have HX0 := Lib.hid hx0
      have HX1 := Lib.hid hx1
      clear hx hy hxy hx0 hx1
      go_upto_region 6 with fail
      have hD := drawn_below wr
      replace p0 := p0.below hD
      replace p1 := p1.below hD
      replace q0 := q0.below hD
      replace q1 := q1.below hD
      replace e0 := e0.below hD
      replace e1 := e1.below hD
      replace e2 := e2.below hD
      replace e3 := e3.below hD
      replace e4 := e4.below hD
      replace e5 := e5.below hD
      replace f0 := f0.below hD
      replace f1 := f1.below hD
      replace f2 := f2.below hD
      replace f3 := f3.below hD
      replace f4 := f4.below hD
      replace f5 := f5.below hD
      replace H0 := H0.trans (hD.mono H0.size)
      clear hD
      refine wp_region_noPanic ?_
      refine wp_region_held_drew (S := (fun V => V.cell? ⟨g, o + i * 6, none⟩ = some (.bool x.s0) ∧ V.cell? ⟨g, o + i * 6 + 1, none⟩ = some (.slice x.A0 x.n0 x.c0) ∧ V.cell? ⟨g, o + i * 6 + 2, none⟩ = some (.slice x.D0 x.m0 x.e0) ∧ V.cell? ⟨g, o + i * 6 + 3, none⟩ = some (.bool x.s1) ∧ V.cell? ⟨g, o + i * 6 + 4, none⟩ = some (.slice x.A1 x.n1 x.c1) ∧ V.cell? ⟨g, o + i * 6 + 5, none⟩ = some (.slice x.D1 x.m1 x.e1) ∧ V.cell? ⟨g', o' + i * 6, none⟩ = some (.bool y.s0) ∧ V.cell? ⟨g', o' + i * 6 + 1, none⟩ = some (.slice y.A0 y.n0 y.c0) ∧ V.cell? ⟨g', o' + i * 6 + 2, none⟩ = some (.slice y.D0 y.m0 y.e0) ∧ V.cell? ⟨g', o' + i * 6 + 3, none⟩ = some (.bool y.s1) ∧ V.cell? ⟨g', o' + i * 6 + 4, none⟩ = some (.slice y.A1 y.n1 y.c1) ∧ V.cell? ⟨g', o' + i * 6 + 5, none⟩ = some (.slice y.D1 y.m1 y.e1))) (by kernel_rfl) ⟨e0.eq, e1.eq, e2.eq, e3.eq, e4.eq, e5.eq, f0.eq, f1.eq, f2.eq, f3.eq, f4.eq, f5.eq⟩ (fun hHeld => ?_)
      generalize wr.drew = v0 at H0 hHeld p0 p1 q0 q1 e0 e1 e2 e3 e4 e5 f0 f1 f2 f3 f4 f5 ⊢
      refine wpAnyH_take (i := 0) (v := ?_) rfl (by kernel_rfl) (by kernel_rfl) (by kernel_rfl) (fun _ _ _ h => h) (Or.inl ⟨by rfl, ?_⟩) (by assumption) ?_
      rotate_left
      · (intro w hSw; (try dsimp only at hSw); go_simp; (try with_reducible rfl))
      (try simp only [List.getElem_toArray, List.getElem_cons_zero, Act.put, List.setIfInBounds_toArray, List.set_cons_zero, List.set_cons_succ])
      refine wpAnyH_take (i := 1) (v := ?_) rfl (by kernel_rfl) (by kernel_rfl) (by kernel_rfl) (fun _ _ _ h => h) (Or.inl ⟨by rfl, ?_⟩) (by assumption) ?_
      rotate_left
      · (intro w hSw; (try dsimp only at hSw); go_simp; (try with_reducible rfl))
      (try simp only [List.getElem_toArray, List.getElem_cons_succ, List.getElem_cons_zero, Act.put, List.setIfInBounds_toArray, List.set_cons_zero, List.set_cons_succ])
      refine wpAnyH_take (i := 4) (v := ?_) rfl (by kernel_rfl) (by kernel_rfl) (by kernel_rfl) (fun _ _ _ h => h) (Or.inl ⟨by rfl, ?_⟩) (by assumption) ?_
      rotate_left
      · (intro w hSw; (try dsimp only at hSw); go_simp; (try with_reducible rfl))
      (try simp only [List.getElem_toArray, List.getElem_cons_succ, List.getElem_cons_zero, Act.put, List.setIfInBounds_toArray, List.set_cons_zero, List.set_cons_succ])
      refine wpAnyH_take (i := 5) (v := ?_) rfl (by kernel_rfl) (by kernel_rfl) (by kernel_rfl) (fun _ _ _ h => h) (Or.inl ⟨by rfl, ?_⟩) (by assumption) ?_
      rotate_left
      · (intro w hSw; (try dsimp only at hSw); go_simp; (try with_reducible rfl))
      (try simp only [List.getElem_toArray, List.getElem_cons_succ, List.getElem_cons_zero, Act.put, List.setIfInBounds_toArray, List.set_cons_zero, List.set_cons_succ])
      refine wpAnyH_take (i := 2) (v := ?_) rfl (by kernel_rfl) (by kernel_rfl) (by kernel_rfl) (fun _ _ _ h => h) (Or.inl ⟨by rfl, ?_⟩) (by assumption) ?_
      rotate_left
      · (intro w hSw; (try dsimp only at hSw); go_simp; (try with_reducible rfl))
      (try simp only [List.getElem_toArray, List.getElem_cons_succ, List.getElem_cons_zero, Act.put, List.setIfInBounds_toArray, List.set_cons_zero, List.set_cons_succ])
      refine wpAnyH_take (i := 6) (v := ?_) rfl (by kernel_rfl) (by kernel_rfl) (by kernel_rfl) (fun _ _ _ h => h) (Or.inl ⟨by rfl, ?_⟩) (by assumption) ?_
      rotate_left
      · (intro w hSw; (try dsimp only at hSw); go_simp; (try with_reducible rfl))
      (try simp only [List.getElem_toArray, List.getElem_cons_succ, List.getElem_cons_zero, Act.put, List.setIfInBounds_toArray, List.set_cons_zero, List.set_cons_succ])
      refine wpAnyH_take (i := 3) (v := ?_) rfl (by kernel_rfl) (by kernel_rfl) (by kernel_rfl) (fun _ _ _ h => h) (Or.inl ⟨by rfl, ?_⟩) (by assumption) ?_
      rotate_left
      · (intro w hSw; (try dsimp only at hSw); go_simp; (try with_reducible rfl))
      (try simp only [List.getElem_toArray, List.getElem_cons_succ, List.getElem_cons_zero, Act.put, List.setIfInBounds_toArray, List.set_cons_zero, List.set_cons_succ])
      refine wpAnyH_take (i := 7) (v := ?_) rfl (by kernel_rfl) (by kernel_rfl) (by kernel_rfl) (fun _ _ _ h => h) (Or.inl ⟨by rfl, ?_⟩) (by assumption) ?_
      rotate_left
      · (intro w hSw; (try dsimp only at hSw); go_simp; (try with_reducible rfl))
      (try simp only [List.getElem_toArray, List.getElem_cons_succ, List.getElem_cons_zero, Act.put, List.setIfInBounds_toArray, List.set_cons_zero, List.set_cons_succ])
      refine wpAnyH_ready (rs := [8]) (by kernel_rfl) (by simp) (AllReadyH.cons (o := _) rfl (fun K hK => ?_) AllReadyH.nil)
      go_simp
      go_at_call 34
      refine (samep_t p0 p1 q0 q1 HX0.out HX1.out).mono ?_
      rintro e w1 ⟨rfl, hb⟩
      replace p0 := p0.below hb
      replace p1 := p1.below hb
      replace q0 := q0.below hb
      replace q1 := q1.below hb
      replace e0 := e0.below hb
      replace e1 := e1.below hb
      replace e2 := e2.below hb
      replace e3 := e3.below hb
      replace e4 := e4.below hb
      replace e5 := e5.below hb
      replace f0 := f0.below hb
      replace f1 := f1.below hb
      replace f2 := f2.below hb
      replace f3 := f3.below hb
      replace f4 := f4.below hb
      replace f5 := f5.below hb
      replace H0 := H0.trans (hb.mono H0.size)
      clear hb
      go_wp2_with fail
      refine hK.out _ _ ⟨e0.eq, e1.eq, e2.eq, e3.eq, e4.eq, e5.eq, f0.eq, f1.eq, f2.eq, f3.eq, f4.eq, f5.eq⟩ (fun hHeld => ?_)
      clear hK K
      (try simp only [List.getElem_toArray, List.getElem_cons_succ, List.getElem_cons_zero, Act.put, List.setIfInBounds_toArray, List.set_cons_zero, List.set_cons_succ])
      refine wpAnyH_take (i := 9) (v := ?_) rfl (by kernel_rfl) (by kernel_rfl) (by kernel_rfl) (fun _ _ _ h => h) (Or.inl ⟨by rfl, ?_⟩) (by assumption) ?_
      rotate_left
      · (intro w hSw; (try dsimp only at hSw); go_simp; (try with_reducible rfl))
      (try simp only [List.getElem_toArray, List.getElem_cons_succ, List.getElem_cons_zero, Act.put, List.setIfInBounds_toArray, List.set_cons_zero, List.set_cons_succ])
      refine wpAnyH_done (by kernel_rfl) ?_ _
      refine NoPanic.normal ?_
      go_wp2_with fail
      go_roundw
      case rel => exact ⟨i + 1, by omega, by go_num, H0⟩
      case measure => simp [intOf]; omega
    · obtain rfl : i = zs.length := by omega
      clear hS hS'
      go_wp2_with fail
      go_ret
      exact ⟨rfl, H0⟩
/-- The order of lists of points, as Compare of rings has it. -/
def lexC : List (Rat × Rat) → List (Rat × Rat) → Int
  | [], [] => 0
  | [], _ :: _ => -1
  | _ :: _, [] => 1
  | a :: l, b :: m => if cmpQ a.1 a.2 b.1 b.2 = 0 then lexC l m else cmpQ a.1 a.2 b.1 b.2
theorem lexC_eq {l m : List (Rat × Rat)} {i : Nat} {a b : Rat × Rat} (ha : l[i]? = some a) (hb : m[i]? = some b) : lexC (l.drop i) (m.drop i) = if cmpQ a.1 a.2 b.1 b.2 = 0 then lexC (l.drop (i + 1)) (m.drop (i + 1)) else cmpQ a.1 a.2 b.1 b.2 := by
  obtain ⟨h1, rfl⟩ := List.getElem?_eq_some_iff.1 ha
  obtain ⟨h2, rfl⟩ := List.getElem?_eq_some_iff.1 hb
  rw [List.drop_eq_getElem_cons h1, List.drop_eq_getElem_cons h2, lexC]
theorem lexC_nil {l m : List (Rat × Rat)} {i : Nat} (hl : l.length ≤ i) : lexC (l.drop i) (m.drop i) = if i < m.length then -1 else 0 := by
  rw [List.drop_of_length_le hl]
  by_cases h : i < m.length
  · rw [List.drop_eq_getElem_cons h, lexC, if_pos h]
  · rw [List.drop_of_length_le (by omega), lexC, if_neg h]
theorem lexC_gt {l m : List (Rat × Rat)} {i : Nat} (hl : i < l.length) (hm : m.length ≤ i) : lexC (l.drop i) (m.drop i) = 1 := by
  rw [List.drop_of_length_le hm, List.drop_eq_getElem_cons hl, lexC]
set_option maxRecDepth 100000 in
set_option maxHeartbeats 4000000 in
theorem rcompare_v {A A' : Option Addr} {n c n' c' L' : Nat} {zs ys : List PP} (hS : ReadR w 6 (.slice A n c) (rowsP zs)) (hF : FP w L zs) (hS' : ReadR w 6 (.slice A' n' c') (rowsP ys)) (hF' : FP w L' ys) (hn : zs.length ≤ 90000) (hL : L ≤ 100) (hL' : L' ≤ 100) :
    Calls Tryz.prog 13 #[.slice A n c, .slice A' n' c'] w fun e w' => e = .returned (.int .i64 (lexC (zs.map PP.pt) (ys.map PP.pt))) ∧ Below w.heap.size w w' := by
  obtain rfl := pp_len hS
  obtain rfl := pp_len hS'
  go_enter Tryz.func13, Tryz.ntmps13
  go_wp2_with fail
  go_loopw [9] (fun ti wr => ∃ (i : Nat), i ≤ zs.length ∧ i ≤ ys.length ∧ ti = .int .i64 (i : Int) ∧ lexC ((zs.map PP.pt).drop i) ((ys.map PP.pt).drop i) = lexC (zs.map PP.pt) (ys.map PP.pt) ∧ Below w.heap.size w wr) (fun ti _ => zs.length - (intOf ti).toNat)
  case atStart => exact ⟨0, Nat.zero_le _, Nat.zero_le _, rfl, rfl, Below.refl _ _⟩
  case round =>
    obtain ⟨i, hi, hi', rfl, hlx, H0⟩ := hrel
    have HLX := Lib.hid hlx
    clear hlx
    by_cases hlt : i < zs.length
    · by_cases hlt' : i < ys.length
      · obtain ⟨x, hx⟩ : ∃ s, zs[i]? = some s := ⟨_, List.getElem?_eq_getElem hlt⟩
        obtain ⟨y, hy⟩ : ∃ s, ys[i]? = some s := ⟨_, List.getElem?_eq_getElem hlt'⟩
        have HST : Hid (_ = _) := Lib.hid (HLX.out.symm.trans (lexC_eq (l := zs.map PP.pt) (m := ys.map PP.pt) (i := i) (a := x.pt) (b := y.pt) (by rw [List.getElem?_map, hx]; rfl) (by rw [List.getElem?_map, hy]; rfl)))
        obtain ⟨g, o, rfl, e0, e1, e2, e3, e4, e5⟩ := pp_elem (hS.below H0) hx
        obtain ⟨g', o', rfl, f0, f1, f2, f3, f4, f5⟩ := pp_elem (hS'.below H0) hy
        obtain ⟨p0, p1⟩ := (hF.below H0) x (List.mem_of_getElem? hx)
        obtain ⟨q0, q1⟩ := (hF'.below H0) y (List.mem_of_getElem? hy)
        clear hx hy
        obtain ⟨kc, hc⟩ : ∃ k, cmpQ x.q0 x.q1 y.q0 y.q1 = k := ⟨_, rfl⟩
        have HC := Lib.hid hc
        clear hc
        have dlt : decide ((ys.length : Int) ≤ (i : Int)) = false := decide_eq_false (by omega)
        have dne : ((i : Int) == (ys.length : Int)) = false := by rw [beq_eq_false_iff_ne]; omega
        by_cases hk : kc = 0
        · have d0 : (kc == 0) = true := by rw [hk]; rfl
          go_upto_region 6 with fail
          have hD := drawn_below wr
          replace p0 := p0.below hD
          replace p1 := p1.below hD
          replace q0 := q0.below hD
          replace q1 := q1.below hD
          replace e0 := e0.below hD
          replace e1 := e1.below hD
          replace e2 := e2.below hD
          replace e3 := e3.below hD
          replace e4 := e4.below hD
          replace e5 := e5.below hD
          replace f0 := f0.below hD
          replace f1 := f1.below hD
          replace f2 := f2.below hD
          replace f3 := f3.below hD
          replace f4 := f4.below hD
          replace f5 := f5.below hD
          replace H0 := H0.trans (hD.mono H0.size)
          clear hD
          refine wp_region_noPanic ?_
          refine wp_region_held_drew (S := (fun V => V.cell? ⟨g, o + i * 6, none⟩ = some (.bool x.s0) ∧ V.cell? ⟨g, o + i * 6 + 1, none⟩ = some (.slice x.A0 x.n0 x.c0) ∧ V.cell? ⟨g, o + i * 6 + 2, none⟩ = some (.slice x.D0 x.m0 x.e0) ∧ V.cell? ⟨g, o + i * 6 + 3, none⟩ = some (.bool x.s1) ∧ V.cell? ⟨g, o + i * 6 + 4, none⟩ = some (.slice x.A1 x.n1 x.c1) ∧ V.cell? ⟨g, o + i * 6 + 5, none⟩ = some (.slice x.D1 x.m1 x.e1) ∧ V.cell? ⟨g', o' + i * 6, none⟩ = some (.bool y.s0) ∧ V.cell? ⟨g', o' + i * 6 + 1, none⟩ = some (.slice y.A0 y.n0 y.c0) ∧ V.cell? ⟨g', o' + i * 6 + 2, none⟩ = some (.slice y.D0 y.m0 y.e0) ∧ V.cell? ⟨g', o' + i * 6 + 3, none⟩ = some (.bool y.s1) ∧ V.cell? ⟨g', o' + i * 6 + 4, none⟩ = some (.slice y.A1 y.n1 y.c1) ∧ V.cell? ⟨g', o' + i * 6 + 5, none⟩ = some (.slice y.D1 y.m1 y.e1))) (by kernel_rfl) ⟨e0.eq, e1.eq, e2.eq, e3.eq, e4.eq, e5.eq, f0.eq, f1.eq, f2.eq, f3.eq, f4.eq, f5.eq⟩ (fun hHeld => ?_)
          generalize wr.drew = v0 at H0 hHeld p0 p1 q0 q1 e0 e1 e2 e3 e4 e5 f0 f1 f2 f3 f4 f5 ⊢
          refine wpAnyH_take (i := 0) (v := ?_) rfl (by kernel_rfl) (by kernel_rfl) (by kernel_rfl) (fun _ _ _ h => h) (Or.inl ⟨by rfl, ?_⟩) (by assumption) ?_
          rotate_left
          · (intro w hSw; (try dsimp only at hSw); go_simp; (try with_reducible rfl))
          (try simp only [List.getElem_toArray, List.getElem_cons_zero, Act.put, List.setIfInBounds_toArray, List.set_cons_zero, List.set_cons_succ])
          refine wpAnyH_take (i := 1) (v := ?_) rfl (by kernel_rfl) (by kernel_rfl) (by kernel_rfl) (fun _ _ _ h => h) (Or.inl ⟨by rfl, ?_⟩) (by assumption) ?_
          rotate_left
          · (intro w hSw; (try dsimp only at hSw); go_simp; (try with_reducible rfl))
          (try simp only [List.getElem_toArray, List.getElem_cons_succ, List.getElem_cons_zero, Act.put, List.setIfInBounds_toArray, List.set_cons_zero, List.set_cons_succ])
          refine wpAnyH_take (i := 4) (v := ?_) rfl (by kernel_rfl) (by kernel_rfl) (by kernel_rfl) (fun _ _ _ h => h) (Or.inl ⟨by rfl, ?_⟩) (by assumption) ?_
          rotate_left
          · (intro w hSw; (try dsimp only at hSw); go_simp; (try with_reducible rfl))
          (try simp only [List.getElem_toArray, List.getElem_cons_succ, List.getElem_cons_zero, Act.put, List.setIfInBounds_toArray, List.set_cons_zero, List.set_cons_succ])
          refine wpAnyH_take (i := 5) (v := ?_) rfl (by kernel_rfl) (by kernel_rfl) (by kernel_rfl) (fun _ _ _ h => h) (Or.inl ⟨by rfl, ?_⟩) (by assumption) ?_
          rotate_left
          · (intro w hSw; (try dsimp only at hSw); go_simp; (try with_reducible rfl))
          (try simp only [List.getElem_toArray, List.getElem_cons_succ, List.getElem_cons_zero, Act.put, List.setIfInBounds_toArray, List.set_cons_zero, List.set_cons_succ])
          refine wpAnyH_take (i := 2) (v := ?_) rfl (by kernel_rfl) (by kernel_rfl) (by kernel_rfl) (fun _ _ _ h => h) (Or.inl ⟨by rfl, ?_⟩) (by assumption) ?_
          rotate_left
          · (intro w hSw; (try dsimp only at hSw); go_simp; (try with_reducible rfl))
          (try simp only [List.getElem_toArray, List.getElem_cons_succ, List.getElem_cons_zero, Act.put, List.setIfInBounds_toArray, List.set_cons_zero, List.set_cons_succ])
          refine wpAnyH_take (i := 6) (v := ?_) rfl (by kernel_rfl) (by kernel_rfl) (by kernel_rfl) (fun _ _ _ h => h) (Or.inl ⟨by rfl, ?_⟩) (by assumption) ?_
          rotate_left
          · (intro w hSw; (try dsimp only at hSw); go_simp; (try with_reducible rfl))
          (try simp only [List.getElem_toArray, List.getElem_cons_succ, List.getElem_cons_zero, Act.put, List.setIfInBounds_toArray, List.set_cons_zero, List.set_cons_succ])
          refine wpAnyH_take (i := 3) (v := ?_) rfl (by kernel_rfl) (by kernel_rfl) (by kernel_rfl) (fun _ _ _ h => h) (Or.inl ⟨by rfl, ?_⟩) (by assumption) ?_
          rotate_left
          · (intro w hSw; (try dsimp only at hSw); go_simp; (try with_reducible rfl))
          (try simp only [List.getElem_toArray, List.getElem_cons_succ, List.getElem_cons_zero, Act.put, List.setIfInBounds_toArray, List.set_cons_zero, List.set_cons_succ])
          refine wpAnyH_take (i := 7) (v := ?_) rfl (by kernel_rfl) (by kernel_rfl) (by kernel_rfl) (fun _ _ _ h => h) (Or.inl ⟨by rfl, ?_⟩) (by assumption) ?_
          rotate_left
          · (intro w hSw; (try dsimp only at hSw); go_simp; (try with_reducible rfl))
          (try simp only [List.getElem_toArray, List.getElem_cons_succ, List.getElem_cons_zero, Act.put, List.setIfInBounds_toArray, List.set_cons_zero, List.set_cons_succ])
          refine wpAnyH_ready (rs := [8]) (by kernel_rfl) (by simp) (AllReadyH.cons (o := _) rfl (fun K hK => ?_) AllReadyH.nil)
          go_simp
          go_at_call 35
          refine (gcompare_v p0 p1 q0 q1 hL hL' HC.out).mono ?_
          rintro e w1 ⟨rfl, hb⟩
          replace p0 := p0.below hb
          replace p1 := p1.below hb
          replace q0 := q0.below hb
          replace q1 := q1.below hb
          replace e0 := e0.below hb
          replace e1 := e1.below hb
          replace e2 := e2.below hb
          replace e3 := e3.below hb
          replace e4 := e4.below hb
          replace e5 := e5.below hb
          replace f0 := f0.below hb
          replace f1 := f1.below hb
          replace f2 := f2.below hb
          replace f3 := f3.below hb
          replace f4 := f4.below hb
          replace f5 := f5.below hb
          replace H0 := H0.trans (hb.mono H0.size)
          clear hb
          go_wp2_with fail
          refine hK.out _ _ ⟨e0.eq, e1.eq, e2.eq, e3.eq, e4.eq, e5.eq, f0.eq, f1.eq, f2.eq, f3.eq, f4.eq, f5.eq⟩ (fun hHeld => ?_)
          clear hK K
          (try simp only [List.getElem_toArray, List.getElem_cons_succ, List.getElem_cons_zero, Act.put, List.setIfInBounds_toArray, List.set_cons_zero, List.set_cons_succ])
          refine wpAnyH_take (i := 9) (v := ?_) rfl (by kernel_rfl) (by kernel_rfl) (by kernel_rfl) (fun _ _ _ h => h) (Or.inl ⟨by rfl, ?_⟩) (by assumption) ?_
          rotate_left
          · (intro w hSw; (try dsimp only at hSw); go_simp; (try with_reducible rfl))
          (try simp only [List.getElem_toArray, List.getElem_cons_succ, List.getElem_cons_zero, Act.put, List.setIfInBounds_toArray, List.set_cons_zero, List.set_cons_succ])
          refine wpAnyH_done (by kernel_rfl) ?_ _
          refine NoPanic.normal ?_
          go_wp2_with fail
          go_roundw
          case rel => exact ⟨i + 1, by omega, by omega, by go_num, by rw [HST.out, if_pos (show cmpQ x.pt.1 x.pt.2 y.pt.1 y.pt.2 = 0 from HC.out.trans hk)], H0⟩
          case measure => simp [intOf]; omega
        · have d0 : (kc == 0) = false := by rw [beq_eq_false_iff_ne]; exact hk
          go_upto_region 6 with fail
          have hD := drawn_below wr
          replace p0 := p0.below hD
          replace p1 := p1.below hD
          replace q0 := q0.below hD
          replace q1 := q1.below hD
          replace e0 := e0.below hD
          replace e1 := e1.below hD
          replace e2 := e2.below hD
          replace e3 := e3.below hD
          replace e4 := e4.below hD
          replace e5 := e5.below hD
          replace f0 := f0.below hD
          replace f1 := f1.below hD
          replace f2 := f2.below hD
          replace f3 := f3.below hD
          replace f4 := f4.below hD
          replace f5 := f5.below hD
          replace H0 := H0.trans (hD.mono H0.size)
          clear hD
          refine wp_region_noPanic ?_
          refine wp_region_held_drew (S := (fun V => V.cell? ⟨g, o + i * 6, none⟩ = some (.bool x.s0) ∧ V.cell? ⟨g, o + i * 6 + 1, none⟩ = some (.slice x.A0 x.n0 x.c0) ∧ V.cell? ⟨g, o + i * 6 + 2, none⟩ = some (.slice x.D0 x.m0 x.e0) ∧ V.cell? ⟨g, o + i * 6 + 3, none⟩ = some (.bool x.s1) ∧ V.cell? ⟨g, o + i * 6 + 4, none⟩ = some (.slice x.A1 x.n1 x.c1) ∧ V.cell? ⟨g, o + i * 6 + 5, none⟩ = some (.slice x.D1 x.m1 x.e1) ∧ V.cell? ⟨g', o' + i * 6, none⟩ = some (.bool y.s0) ∧ V.cell? ⟨g', o' + i * 6 + 1, none⟩ = some (.slice y.A0 y.n0 y.c0) ∧ V.cell? ⟨g', o' + i * 6 + 2, none⟩ = some (.slice y.D0 y.m0 y.e0) ∧ V.cell? ⟨g', o' + i * 6 + 3, none⟩ = some (.bool y.s1) ∧ V.cell? ⟨g', o' + i * 6 + 4, none⟩ = some (.slice y.A1 y.n1 y.c1) ∧ V.cell? ⟨g', o' + i * 6 + 5, none⟩ = some (.slice y.D1 y.m1 y.e1))) (by kernel_rfl) ⟨e0.eq, e1.eq, e2.eq, e3.eq, e4.eq, e5.eq, f0.eq, f1.eq, f2.eq, f3.eq, f4.eq, f5.eq⟩ (fun hHeld => ?_)
          generalize wr.drew = v0 at H0 hHeld p0 p1 q0 q1 e0 e1 e2 e3 e4 e5 f0 f1 f2 f3 f4 f5 ⊢
          refine wpAnyH_take (i := 0) (v := ?_) rfl (by kernel_rfl) (by kernel_rfl) (by kernel_rfl) (fun _ _ _ h => h) (Or.inl ⟨by rfl, ?_⟩) (by assumption) ?_
          rotate_left
          · (intro w hSw; (try dsimp only at hSw); go_simp; (try with_reducible rfl))
          (try simp only [List.getElem_toArray, List.getElem_cons_zero, Act.put, List.setIfInBounds_toArray, List.set_cons_zero, List.set_cons_succ])
          refine wpAnyH_take (i := 1) (v := ?_) rfl (by kernel_rfl) (by kernel_rfl) (by kernel_rfl) (fun _ _ _ h => h) (Or.inl ⟨by rfl, ?_⟩) (by assumption) ?_
          rotate_left
          · (intro w hSw; (try dsimp only at hSw); go_simp; (try with_reducible rfl))
          (try simp only [List.getElem_toArray, List.getElem_cons_succ, List.getElem_cons_zero, Act.put, List.setIfInBounds_toArray, List.set_cons_zero, List.set_cons_succ])
          refine wpAnyH_take (i := 4) (v := ?_) rfl (by kernel_rfl) (by kernel_rfl) (by kernel_rfl) (fun _ _ _ h => h) (Or.inl ⟨by rfl, ?_⟩) (by assumption) ?_
          rotate_left
          · (intro w hSw; (try dsimp only at hSw); go_simp; (try with_reducible rfl))
          (try simp only [List.getElem_toArray, List.getElem_cons_succ, List.getElem_cons_zero, Act.put, List.setIfInBounds_toArray, List.set_cons_zero, List.set_cons_succ])
          refine wpAnyH_take (i := 5) (v := ?_) rfl (by kernel_rfl) (by kernel_rfl) (by kernel_rfl) (fun _ _ _ h => h) (Or.inl ⟨by rfl, ?_⟩) (by assumption) ?_
          rotate_left
          · (intro w hSw; (try dsimp only at hSw); go_simp; (try with_reducible rfl))
          (try simp only [List.getElem_toArray, List.getElem_cons_succ, List.getElem_cons_zero, Act.put, List.setIfInBounds_toArray, List.set_cons_zero, List.set_cons_succ])
          refine wpAnyH_take (i := 2) (v := ?_) rfl (by kernel_rfl) (by kernel_rfl) (by kernel_rfl) (fun _ _ _ h => h) (Or.inl ⟨by rfl, ?_⟩) (by assumption) ?_
          rotate_left
          · (intro w hSw; (try dsimp only at hSw); go_simp; (try with_reducible rfl))
          (try simp only [List.getElem_toArray, List.getElem_cons_succ, List.getElem_cons_zero, Act.put, List.setIfInBounds_toArray, List.set_cons_zero, List.set_cons_succ])
          refine wpAnyH_take (i := 6) (v := ?_) rfl (by kernel_rfl) (by kernel_rfl) (by kernel_rfl) (fun _ _ _ h => h) (Or.inl ⟨by rfl, ?_⟩) (by assumption) ?_
          rotate_left
          · (intro w hSw; (try dsimp only at hSw); go_simp; (try with_reducible rfl))
          (try simp only [List.getElem_toArray, List.getElem_cons_succ, List.getElem_cons_zero, Act.put, List.setIfInBounds_toArray, List.set_cons_zero, List.set_cons_succ])
          refine wpAnyH_take (i := 3) (v := ?_) rfl (by kernel_rfl) (by kernel_rfl) (by kernel_rfl) (fun _ _ _ h => h) (Or.inl ⟨by rfl, ?_⟩) (by assumption) ?_
          rotate_left
          · (intro w hSw; (try dsimp only at hSw); go_simp; (try with_reducible rfl))
          (try simp only [List.getElem_toArray, List.getElem_cons_succ, List.getElem_cons_zero, Act.put, List.setIfInBounds_toArray, List.set_cons_zero, List.set_cons_succ])
          refine wpAnyH_take (i := 7) (v := ?_) rfl (by kernel_rfl) (by kernel_rfl) (by kernel_rfl) (fun _ _ _ h => h) (Or.inl ⟨by rfl, ?_⟩) (by assumption) ?_
          rotate_left
          · (intro w hSw; (try dsimp only at hSw); go_simp; (try with_reducible rfl))
          (try simp only [List.getElem_toArray, List.getElem_cons_succ, List.getElem_cons_zero, Act.put, List.setIfInBounds_toArray, List.set_cons_zero, List.set_cons_succ])
          refine wpAnyH_ready (rs := [8]) (by kernel_rfl) (by simp) (AllReadyH.cons (o := _) rfl (fun K hK => ?_) AllReadyH.nil)
          go_simp
          go_at_call 35
          refine (gcompare_v p0 p1 q0 q1 hL hL' HC.out).mono ?_
          rintro e w1 ⟨rfl, hb⟩
          replace p0 := p0.below hb
          replace p1 := p1.below hb
          replace q0 := q0.below hb
          replace q1 := q1.below hb
          replace e0 := e0.below hb
          replace e1 := e1.below hb
          replace e2 := e2.below hb
          replace e3 := e3.below hb
          replace e4 := e4.below hb
          replace e5 := e5.below hb
          replace f0 := f0.below hb
          replace f1 := f1.below hb
          replace f2 := f2.below hb
          replace f3 := f3.below hb
          replace f4 := f4.below hb
          replace f5 := f5.below hb
          replace H0 := H0.trans (hb.mono H0.size)
          clear hb
          go_wp2_with fail
          refine hK.out _ _ ⟨e0.eq, e1.eq, e2.eq, e3.eq, e4.eq, e5.eq, f0.eq, f1.eq, f2.eq, f3.eq, f4.eq, f5.eq⟩ (fun hHeld => ?_)
          clear hK K
          (try simp only [List.getElem_toArray, List.getElem_cons_succ, List.getElem_cons_zero, Act.put, List.setIfInBounds_toArray, List.set_cons_zero, List.set_cons_succ])
          refine wpAnyH_take (i := 9) (v := ?_) rfl (by kernel_rfl) (by kernel_rfl) (by kernel_rfl) (fun _ _ _ h => h) (Or.inl ⟨by rfl, ?_⟩) (by assumption) ?_
          rotate_left
          · (intro w hSw; (try dsimp only at hSw); go_simp; (try with_reducible rfl))
          (try simp only [List.getElem_toArray, List.getElem_cons_succ, List.getElem_cons_zero, Act.put, List.setIfInBounds_toArray, List.set_cons_zero, List.set_cons_succ])
          refine wpAnyH_done (by kernel_rfl) ?_ _
          refine NoPanic.normal ?_
          go_wp2_with fail
          go_ret
          exact ⟨by rw [HST.out, if_neg (show ¬ cmpQ x.pt.1 x.pt.2 y.pt.1 y.pt.2 = 0 from fun h => hk (HC.out.symm.trans h))]; show _ = Ending.returned (.int .i64 (cmpQ x.q0 x.q1 y.q0 y.q1)); rw [HC.out]; rfl, H0⟩
      · have dlt : decide ((ys.length : Int) ≤ (i : Int)) = true := decide_eq_true (by omega)
        have dne : ((i : Int) == (ys.length : Int)) = true := by rw [beq_iff_eq]; omega
        have HST : Hid (_ = _) := Lib.hid (HLX.out.symm.trans (lexC_gt (l := zs.map PP.pt) (m := ys.map PP.pt) (i := i) (by rw [List.length_map]; exact hlt) (by rw [List.length_map]; omega)))
        obtain ⟨x, hx⟩ : ∃ s, zs[i]? = some s := ⟨_, List.getElem?_eq_getElem hlt⟩
        obtain ⟨g, o, rfl, e0, e1, e2, e3, e4, e5⟩ := pp_elem (hS.below H0) hx
        clear hx
        unfold CellF at e0 e1 e2 e3 e4 e5
        go_wp2_with fail
        go_ret
        exact ⟨by rw [HST.out]; rfl, H0⟩
    · obtain rfl : i = zs.length := by omega
      have HST : Hid (_ = _) := Lib.hid (HLX.out.symm.trans (lexC_nil (l := zs.map PP.pt) (m := ys.map PP.pt) (i := zs.length) (by rw [List.length_map]; exact Nat.le_refl _)))
      by_cases hlt' : zs.length < ys.length
      · have d3 : decide ((zs.length : Int) < (ys.length : Int)) = true := decide_eq_true (by omega)
        clear hS hS'
        go_wp2_with fail
        go_ret
        exact ⟨by rw [HST.out, if_pos (by rw [List.length_map]; exact hlt')]; rfl, H0⟩
      · have d3 : decide ((zs.length : Int) < (ys.length : Int)) = false := decide_eq_false (by omega)
        clear hS hS'
        go_wp2_with fail
        go_ret
        exact ⟨by rw [HST.out, if_neg (by rw [List.length_map]; exact hlt')]; rfl, H0⟩
end
end Go.Proofs.YthmmnmajkeoaaabGreatDoor
namespace Go.Proofs.YthmmnmajkeoaaabGreatDoor
open Go.RowKit
section
variable {w : World} {L : Nat}
set_option maxRecDepth 100000 in
set_option maxHeartbeats 4000000 in
theorem compf_v {A A' : Option Addr} {n c n' c' L' : Nat} {zs ys : List PP} (hS : ReadR w 6 (.slice A n c) (rowsP zs)) (hF : FN w L zs) (hS' : ReadR w 6 (.slice A' n' c') (rowsP ys)) (hF' : FN w L' ys) (hn : zs.length ≤ 90000) (hL : L ≤ 100000) (hL' : L' ≤ 100000) :
    Calls Tryz.prog 28 #[.slice A n c, .slice A' n' c', .func (.func 29) #[] #[]] w fun e w' => e = .returned (.int .i64 (lexC (zs.map PP.pt) (ys.map PP.pt))) ∧ Below w.heap.size w w' := by
  obtain rfl := pp_len hS
  obtain rfl := pp_len hS'
  go_enter Tryz.func28, Tryz.ntmps28
  go_wp2_with fail
  go_loopw [13] (fun ti wr => ∃ (i : Nat), i ≤ zs.length ∧ i ≤ ys.length ∧ ti = .int .i64 (i : Int) ∧ lexC ((zs.map PP.pt).drop i) ((ys.map PP.pt).drop i) = lexC (zs.map PP.pt) (ys.map PP.pt) ∧ Below w.heap.size w wr) (fun ti _ => zs.length - (intOf ti).toNat)
  case atStart => exact ⟨0, Nat.zero_le _, Nat.zero_le _, rfl, rfl, Below.refl _ _⟩
  case round =>
    obtain ⟨i, hi, hi', rfl, hlx, H0⟩ := hrel
    have HLX := Lib.hid hlx
    clear hlx
    by_cases hlt : i < zs.length
    · by_cases hlt' : i < ys.length
      · obtain ⟨x, hx⟩ : ∃ s, zs[i]? = some s := ⟨_, List.getElem?_eq_getElem hlt⟩
        obtain ⟨y, hy⟩ : ∃ s, ys[i]? = some s := ⟨_, List.getElem?_eq_getElem hlt'⟩
        have HST : Hid (_ = _) := Lib.hid (HLX.out.symm.trans (lexC_eq (l := zs.map PP.pt) (m := ys.map PP.pt) (i := i) (a := x.pt) (b := y.pt) (by rw [List.getElem?_map, hx]; rfl) (by rw [List.getElem?_map, hy]; rfl)))
        obtain ⟨g, o, rfl, e0, e1, e2, e3, e4, e5⟩ := pp_elem (hS.below H0) hx
        obtain ⟨g', o', rfl, f0, f1, f2, f3, f4, f5⟩ := pp_elem (hS'.below H0) hy
        obtain ⟨p0, p1⟩ := (hF.below H0) x (List.mem_of_getElem? hx)
        obtain ⟨q0, q1⟩ := (hF'.below H0) y (List.mem_of_getElem? hy)
        clear hx hy
        obtain ⟨kc, hc⟩ : ∃ k, cmpQ x.q0 x.q1 y.q0 y.q1 = k := ⟨_, rfl⟩
        have HC := Lib.hid hc
        clear hc
        have dlt : decide ((ys.length : Int) ≤ (i : Int)) = false := decide_eq_false (by omega)
        have dne : ((i : Int) == (ys.length : Int)) = false := by rw [beq_eq_false_iff_ne]; omega
        by_cases hk : kc = 0
        · have d0 : (kc == 0) = true := by rw [hk]; rfl
          obtain ⟨W5, hW5, b8, hb5, hs5⟩ := boxes1 wr #[.bool x.s0, .slice x.A0 x.n0 x.c0, .slice x.D0 x.m0 x.e0, .bool x.s1, .slice x.A1 x.n1 x.c1, .slice x.D1 x.m1 x.e1] 65
          obtain ⟨W6, hW6, b9, hb6, hs6⟩ := boxes1 W5 #[.bool y.s0, .slice y.A0 y.n0 y.c0, .slice y.D0 y.m0 y.e0, .bool y.s1, .slice y.A1 y.n1 y.c1, .slice y.D1 y.m1 y.e1] 65
          have e0 := (e0).eq
          have e1 := (e1).eq
          have e2 := (e2).eq
          have e3 := (e3).eq
          have e4 := (e4).eq
          have e5 := (e5).eq
          have f0 := (f0.below hb5).eq
          have f1 := (f1.below hb5).eq
          have f2 := (f2.below hb5).eq
          have f3 := (f3.below hb5).eq
          have f4 := (f4.below hb5).eq
          have f5 := (f5.below hb5).eq
          replace b8 := b8.below hb6
          replace p0 := (p0.below hb5).below hb6
          replace p1 := (p1.below hb5).below hb6
          replace q0 := (q0.below hb5).below hb6
          replace q1 := (q1.below hb5).below hb6
          replace H0 := (H0.trans (hb5.mono H0.size)).trans (hb6.mono (H0.trans (hb5.mono H0.size)).size)
          have x0 := b8.cell 0 _ rfl
          have y0 := b9.cell 0 _ rfl
          have x1 := b8.cell 1 _ rfl
          have y1 := b9.cell 1 _ rfl
          have x2 := b8.cell 2 _ rfl
          have y2 := b9.cell 2 _ rfl
          have x3 := b8.cell 3 _ rfl
          have y3 := b9.cell 3 _ rfl
          have x4 := b8.cell 4 _ rfl
          have y4 := b9.cell 4 _ rfl
          have x5 := b8.cell 5 _ rfl
          have y5 := b9.cell 5 _ rfl
          clear hs5 hs6 hb5 hb6 hS hS' hF hF'
          go_wp2_with fail
          clear hW5 hW6
          refine (pcompare_v p0.rq p1.rq q0.rq q1.rq hL hL' HC.out).mono ?_
          rintro e w9 ⟨rfl, hb⟩
          replace H0 := H0.trans (hb.mono H0.size)
          clear hb p0 p1 q0 q1 b8 b9
          go_wp2_with fail
          go_roundw
          case rel => exact ⟨i + 1, by omega, by omega, by go_num, by rw [HST.out, if_pos (show cmpQ x.pt.1 x.pt.2 y.pt.1 y.pt.2 = 0 from HC.out.trans hk)], H0⟩
          case measure => simp [intOf]; omega
        · have d0 : (kc == 0) = false := by rw [beq_eq_false_iff_ne]; exact hk
          obtain ⟨W5, hW5, b8, hb5, hs5⟩ := boxes1 wr #[.bool x.s0, .slice x.A0 x.n0 x.c0, .slice x.D0 x.m0 x.e0, .bool x.s1, .slice x.A1 x.n1 x.c1, .slice x.D1 x.m1 x.e1] 65
          obtain ⟨W6, hW6, b9, hb6, hs6⟩ := boxes1 W5 #[.bool y.s0, .slice y.A0 y.n0 y.c0, .slice y.D0 y.m0 y.e0, .bool y.s1, .slice y.A1 y.n1 y.c1, .slice y.D1 y.m1 y.e1] 65
          have e0 := (e0).eq
          have e1 := (e1).eq
          have e2 := (e2).eq
          have e3 := (e3).eq
          have e4 := (e4).eq
          have e5 := (e5).eq
          have f0 := (f0.below hb5).eq
          have f1 := (f1.below hb5).eq
          have f2 := (f2.below hb5).eq
          have f3 := (f3.below hb5).eq
          have f4 := (f4.below hb5).eq
          have f5 := (f5.below hb5).eq
          replace b8 := b8.below hb6
          replace p0 := (p0.below hb5).below hb6
          replace p1 := (p1.below hb5).below hb6
          replace q0 := (q0.below hb5).below hb6
          replace q1 := (q1.below hb5).below hb6
          replace H0 := (H0.trans (hb5.mono H0.size)).trans (hb6.mono (H0.trans (hb5.mono H0.size)).size)
          have x0 := b8.cell 0 _ rfl
          have y0 := b9.cell 0 _ rfl
          have x1 := b8.cell 1 _ rfl
          have y1 := b9.cell 1 _ rfl
          have x2 := b8.cell 2 _ rfl
          have y2 := b9.cell 2 _ rfl
          have x3 := b8.cell 3 _ rfl
          have y3 := b9.cell 3 _ rfl
          have x4 := b8.cell 4 _ rfl
          have y4 := b9.cell 4 _ rfl
          have x5 := b8.cell 5 _ rfl
          have y5 := b9.cell 5 _ rfl
          clear hs5 hs6 hb5 hb6 hS hS' hF hF'
          go_wp2_with fail
          clear hW5 hW6
          refine (pcompare_v p0.rq p1.rq q0.rq q1.rq hL hL' HC.out).mono ?_
          rintro e w9 ⟨rfl, hb⟩
          replace H0 := H0.trans (hb.mono H0.size)
          clear hb p0 p1 q0 q1 b8 b9
          go_wp2_with fail
          go_ret
          exact ⟨by rw [HST.out, if_neg (show ¬ cmpQ x.pt.1 x.pt.2 y.pt.1 y.pt.2 = 0 from fun h => hk (HC.out.symm.trans h))]; show _ = Ending.returned (.int .i64 (cmpQ x.q0 x.q1 y.q0 y.q1)); rw [HC.out]; rfl, H0⟩
      · have dlt : decide ((ys.length : Int) ≤ (i : Int)) = true := decide_eq_true (by omega)
        have dne : ((i : Int) == (ys.length : Int)) = true := by rw [beq_iff_eq]; omega
        have HST : Hid (_ = _) := Lib.hid (HLX.out.symm.trans (lexC_gt (l := zs.map PP.pt) (m := ys.map PP.pt) (i := i) (by rw [List.length_map]; exact hlt) (by rw [List.length_map]; omega)))
        obtain ⟨x, hx⟩ : ∃ s, zs[i]? = some s := ⟨_, List.getElem?_eq_getElem hlt⟩
        obtain ⟨g, o, rfl, e0, e1, e2, e3, e4, e5⟩ := pp_elem (hS.below H0) hx
        clear hx
        unfold CellF at e0 e1 e2 e3 e4 e5
        obtain ⟨W5, hW5, b8, hb5, hs5⟩ := boxes1 wr #[.bool x.s0, .slice x.A0 x.n0 x.c0, .slice x.D0 x.m0 x.e0, .bool x.s1, .slice x.A1 x.n1 x.c1, .slice x.D1 x.m1 x.e1] 65
        have H0b := H0.trans (hb5.mono H0.size)
        clear hs5 hb5 b8 hS hS'
        go_wp2_with fail
        go_ret
        exact ⟨by rw [HST.out]; rfl, H0b⟩
    · obtain rfl : i = zs.length := by omega
      have HST : Hid (_ = _) := Lib.hid (HLX.out.symm.trans (lexC_nil (l := zs.map PP.pt) (m := ys.map PP.pt) (i := zs.length) (by rw [List.length_map]; exact Nat.le_refl _)))
      by_cases hlt' : zs.length < ys.length
      · have d3 : decide ((zs.length : Int) < (ys.length : Int)) = true := decide_eq_true (by omega)
        clear hS hS'
        go_wp2_with fail
        go_ret
        exact ⟨by rw [HST.out, if_pos (by rw [List.length_map]; exact hlt')]; rfl, H0⟩
      · have d3 : decide ((zs.length : Int) < (ys.length : Int)) = false := decide_eq_false (by omega)
        clear hS hS'
        go_wp2_with fail
        go_ret
        exact ⟨by rw [HST.out, if_neg (by rw [List.length_map]; exact hlt')]; rfl, H0⟩
set_option maxRecDepth 100000 in
set_option maxHeartbeats 2000000 in
theorem ringcmp_v {A A' : Option Addr} {n c n' c' : Nat} {zs ys : List PP} (hS : ReadR w 6 (.slice A n c) (rowsP zs)) (hF : FN w L zs) (hS' : ReadR w 6 (.slice A' n' c') (rowsP ys)) (hF' : FN w L ys) (hn : zs.length ≤ 4096) (hn' : ys.length ≤ 4096) (hL : L ≤ 100000) (h1 : stopsB zs = false) (h2 : opensB zs = true) (h3 : stopsB ys = false) (h4 : opensB ys = true) :
    Calls Tryz.prog 9 #[.slice A n c, .slice A' n' c'] w fun e w' => e = .returned (.tuple #[.int .i64 (lexC (zs.map PP.pt) (ys.map PP.pt)), .nilIface]) ∧ Below w.heap.size w w' := by
  have HK1 := Lib.hid (fun (W : World) (hW : Below w.heap.size w W) => check_ok (hS.below hW) (hF.below hW) hn hL h1 h2)
  have HK2 := Lib.hid (fun (W : World) (hW : Below w.heap.size w W) => check_ok (hS'.below hW) (hF'.below hW) hn' hL h3 h4)
  have HC := Lib.hid (fun (W : World) (hW : Below w.heap.size w W) => compf_v (hS.below hW) (hF.below hW) (hS'.below hW) (hF'.below hW) (by omega) hL hL)
  clear hS hF hS' hF' h1 h2 h3 h4
  go_enter Tryz.func9, Tryz.ntmps9
  go_wp2_with fail
  obtain ⟨W0, hW, b0, hb0, hs0⟩ := boxes1 w #[.slice A n c, .slice A' n' c'] 30
  rw [hW]
  clear hW hs0
  go_loopw [13] (fun t13 wr => (t13 = .int .i64 0 ∨ t13 = .int .i64 1 ∨ t13 = .int .i64 2) ∧ Box wr w.heap.size #[.slice A n c, .slice A' n' c'] 30 ∧ Below w.heap.size w wr) (fun t13 _ => 2 - (intOf t13).toNat)
  case atStart => exact ⟨.inl rfl, b0, hb0⟩
  case round =>
    clear b0 hb0
    obtain ⟨rfl | rfl | rfl, b0, H0⟩ := hrel
    · have x0 := b0.cell 0 _ rfl
      have x1 := b0.cell 1 _ rfl
      go_wp2_with fail
      refine (HK1.out _ H0).mono ?_
      rintro e w1 ⟨rfl, hb⟩
      replace b0 := b0.below hb
      replace H0 := H0.trans (hb.mono H0.size)
      clear hb x0 x1
      go_wp2_with fail
      go_roundw
      case rel => exact ⟨.inr (.inl (by go_num)), b0, H0⟩
      case measure => simp [intOf]
    · have x0 := b0.cell 0 _ rfl
      have x1 := b0.cell 1 _ rfl
      go_wp2_with fail
      refine (HK2.out _ H0).mono ?_
      rintro e w1 ⟨rfl, hb⟩
      replace b0 := b0.below hb
      replace H0 := H0.trans (hb.mono H0.size)
      clear hb x0 x1
      go_wp2_with fail
      go_roundw
      case rel => exact ⟨.inr (.inr (by go_num)), b0, H0⟩
      case measure => simp [intOf]
    · go_wp2_with fail
      refine (HC.out _ H0).mono ?_
      rintro e w1 ⟨rfl, hb⟩
      replace H0 := H0.trans (hb.mono H0.size)
      clear hb
      go_wp2_with fail
      go_returns
      exact ⟨rfl, H0⟩
/-- A list, turned. -/
def rotL {α : Type} (m : Nat) (l : List α) : List α := l.drop m ++ l.take m
theorem rotL_len {α : Type} (m : Nat) (l : List α) : (rotL m l).length = l.length := by unfold rotL; rw [List.length_append, List.length_drop, List.length_take]; omega
theorem rotL_get {zs : List PP} {m t : Nat} (hm : m ≤ zs.length) (ht : t < zs.length) : ((rotL m zs).map PP.pt)[t]? = some (rotF zs (m + t)) := by
  have key : (rotL m zs)[t]? = some (zs.getD ((m + t) % zs.length) default) := by
    unfold rotL
    by_cases h : t < zs.length - m
    · rw [List.getElem?_append_left (by rw [List.length_drop]; exact h), List.getElem?_drop, Nat.mod_eq_of_lt (by omega)]
      exact get_ok (by omega)
    · rw [List.getElem?_append_right (by rw [List.length_drop]; omega), List.length_drop, List.getElem?_take, if_pos (by omega), Nat.mod_eq_sub_mod (by omega), Nat.mod_eq_of_lt (by omega), show t - (zs.length - m) = m + t - zs.length by omega]
      exact get_ok (by omega)
  rw [List.getElem?_map, key]; rfl
end
end Go.Proofs.YthmmnmajkeoaaabGreatDoor
namespace Go.Proofs.YthmmnmajkeoaaabGreatDoor
open Go.RowKit
section
variable {w : World} {L : Nat}
set_option maxRecDepth 100000 in
set_option maxHeartbeats 4000000 in
theorem canon_v {A : Option Addr} {n c : Nat} {zs : List PP} (hS : ReadR w 6 (.slice A n c) (rowsP zs)) (hF : FN w L zs) (h0 : 0 < zs.length) (hn : zs.length ≤ 4096) (hL : L ≤ 100000) (h1 : stopsB zs = false) (h2 : opensB zs = true) :
    Calls Tryz.prog 8 #[.slice A n c] w fun e w' => ∃ m A' c' ys, e = .returned (.tuple #[.slice A' ys.length c', .nilIface]) ∧ m < zs.length ∧ RotMin ptLt (rotF zs) zs.length m ∧ ReadR w' 6 (.slice A' ys.length c') (rowsP ys) ∧ FN w' (max L 2) ys ∧ ys.map PP.pt = (rotL m zs).map PP.pt ∧ Below w.heap.size w w' := by
  obtain rfl := pp_len hS
  have HK1 := Lib.hid (fun (W : World) (hW : Below w.heap.size w W) => check_ok (hS.below hW) (hF.below hW) hn hL h1 h2)
  have HL1 := Lib.hid (fun (W : World) (hW : Below w.heap.size w W) => lstart_v (hS.below hW) (hF.below hW) h0 (by omega) hL)
  obtain ⟨g, o, rfl, e0, _⟩ := pp_elem (i := 0) (x := zs.getD 0 default) hS (get_ok h0)
  clear e0 h1 h2
  have hc0 : zs.length ≤ c := by obtain ⟨_, _, _, e1, h1, _⟩ := hS; injection e1 with _ e2 e3; omega
  go_enter Tryz.func8, Tryz.ntmps8
  go_wp2_with fail
  refine (HK1.out _ (Below.refl _ _)).mono ?_
  rintro e w1 ⟨rfl, H0⟩
  go_wp2_with fail
  refine (HL1.out _ H0).mono ?_
  rintro e w2 ⟨m, rfl, hm, hmin, hb⟩
  replace H0 := H0.trans (hb.mono H0.size)
  have HM := Lib.hid hmin
  clear hb hmin
  replace hS := hS.below H0
  replace hF := hF.below H0
  have hS1 := part_pp hS (i := m) (j := zs.length) (by omega) (Nat.le_refl _)
  have hS2 := part_pp hS (i := 0) (j := m) (Nat.zero_le _) (by omega)
  rw [List.take_of_length_le (Nat.le_refl _)] at hS1
  simp only [Nat.zero_mul, Nat.add_zero, Nat.sub_zero, List.drop_zero] at hS2
  have hmc : m ≤ c := by omega
  have hml : m ≤ zs.length := by omega
  have hcm : ¬ c = m := by omega
  have hm0 : 0 < (zs.drop m).length := by rw [List.length_drop]; omega
  have hmd : (zs.drop m).length ≤ 40000 := by rw [List.length_drop]; omega
  have hmt : (zs.take m).length ≤ 40000 := by rw [List.length_take]; omega
  have hFr : FN w2 L (zs.drop m ++ zs.take m) := FN.app (hF.sub fun z hz => List.mem_of_mem_drop hz) (hF.sub fun z hz => List.mem_of_mem_take hz)
  have hlr : (zs.drop m ++ zs.take m).length ≤ 90000 := by rw [List.length_append]; omega
  obtain ⟨zz, hzz⟩ : ∃ zz, zs.drop m ++ zs.take m = zz := ⟨_, rfl⟩
  have HZ := Lib.hid hzz
  rw [hzz] at hFr hlr
  clear hzz
  go_upto_region 5 with fail
  clear hS hF
  have hD := drawn_below w2
  replace hS1 := hS1.below hD
  replace hS2 := hS2.below hD
  replace hFr := hFr.below hD
  replace H0 := H0.trans (hD.mono H0.size)
  clear hD
  refine wp_region_noPanic ?_
  refine wp_region_held_drew (S := (fun _ => True)) (by kernel_rfl) trivial (fun hHeld => ?_)
  generalize w2.drew = v0 at H0 hS1 hS2 hFr ⊢
  refine wpAnyH_take (i := 0) (v := ?_) rfl (by kernel_rfl) (by kernel_rfl) (by kernel_rfl) (fun _ _ _ h => h) (Or.inl ⟨by rfl, ?_⟩) (by assumption) ?_
  rotate_left
  · (intro w hSw; (try dsimp only at hSw); go_simp; (try with_reducible rfl))
  (try simp only [List.getElem_toArray, List.getElem_cons_zero, Act.put, List.setIfInBounds_toArray, List.set_cons_zero, List.set_cons_succ])
  refine wpAnyH_take (i := 1) (v := ?_) rfl (by kernel_rfl) (by kernel_rfl) (by kernel_rfl) (fun _ _ _ h => h) (Or.inl ⟨by rfl, ?_⟩) (by assumption) ?_
  rotate_left
  · (intro w hSw; (try dsimp only at hSw); go_simp; (try with_reducible rfl))
  (try simp only [List.getElem_toArray, List.getElem_cons_succ, List.getElem_cons_zero, Act.put, List.setIfInBounds_toArray, List.set_cons_zero, List.set_cons_succ])
  refine wpAnyH_take (i := 2) (v := ?_) rfl (by kernel_rfl) (by kernel_rfl) (by kernel_rfl) (fun _ _ _ h => h) (Or.inl ⟨by rfl, ?_⟩) (by assumption) ?_
  rotate_left
  · (intro w hSw; (try dsimp only at hSw); go_simp; (try with_reducible rfl))
  (try simp only [List.getElem_toArray, List.getElem_cons_succ, List.getElem_cons_zero, Act.put, List.setIfInBounds_toArray, List.set_cons_zero, List.set_cons_succ])
  refine wpAnyH_take (i := 3) (v := ?_) rfl (by kernel_rfl) (by kernel_rfl) (by kernel_rfl) (fun _ _ _ h => h) (Or.inl ⟨by rfl, ?_⟩) (by assumption) ?_
  rotate_left
  · (intro w hSw; (try dsimp only at hSw); go_simp; (try with_reducible rfl))
  (try simp only [List.getElem_toArray, List.getElem_cons_succ, List.getElem_cons_zero, Act.put, List.setIfInBounds_toArray, List.set_cons_zero, List.set_cons_succ])
  refine wpAnyH_take (i := 4) (v := ?_) rfl (by kernel_rfl) (by kernel_rfl) (by kernel_rfl) (fun _ _ _ h => h) (Or.inl ⟨by rfl, ?_⟩) (by assumption) ?_
  rotate_left
  · (intro w hSw; (try dsimp only at hSw); go_simp; (try with_reducible rfl))
  (try simp only [List.getElem_toArray, List.getElem_cons_succ, List.getElem_cons_zero, Act.put, List.setIfInBounds_toArray, List.set_cons_zero, List.set_cons_succ])
  refine wpAnyH_take (i := 5) (v := ?_) rfl (by kernel_rfl) (by kernel_rfl) (by kernel_rfl) (fun _ _ _ h => h) (Or.inl ⟨by rfl, ?_⟩) (by assumption) ?_
  rotate_left
  · (intro w hSw; (try dsimp only at hSw); go_simp; (try with_reducible rfl))
  (try simp only [List.getElem_toArray, List.getElem_cons_succ, List.getElem_cons_zero, Act.put, List.setIfInBounds_toArray, List.set_cons_zero, List.set_cons_succ])
  refine wpAnyH_ready (rs := [6]) (by kernel_rfl) (by simp) (AllReadyH.cons (o := _) rfl (fun K hK => ?_) AllReadyH.nil)
  go_simp
  obtain ⟨W1, hW, bx, hbW, hszW1⟩ := boxes1 v0 #[.slice (some ⟨g, o + m * 6, none⟩) (zs.length - m) (c - m), .slice (some ⟨g, o, none⟩) m c] 30
  rw [hW]
  clear hW hszW1
  replace hS1 := hS1.below hbW
  replace hS2 := hS2.below hbW
  replace hFr := hFr.below hbW
  replace H0 := H0.trans (hbW.mono H0.size)
  clear hbW
  refine hK.out _ _ trivial (fun hHeld => ?_)
  clear hK K
  (try simp only [List.getElem_toArray, List.getElem_cons_succ, List.getElem_cons_zero, Act.put, List.setIfInBounds_toArray, List.set_cons_zero, List.set_cons_succ])
  refine wpAnyH_ready (rs := [7]) (by kernel_rfl) (by simp) (AllReadyH.cons (o := _) rfl (fun K hK => ?_) AllReadyH.nil)
  go_simp
  go_at_call 27
  refine (concat2_v (bx.cell 0 _ rfl) (bx.cell 1 _ rfl) hS1 hS2 hm0 hmd hmt).mono ?_
  rintro e w2 ⟨A3, c3, rfl, hC, hb⟩
  replace hS1 := hS1.below hb
  replace hS2 := hS2.below hb
  replace hFr := hFr.below hb
  replace bx := bx.below hb
  replace H0 := H0.trans (hb.mono H0.size)
  clear hb
  clear hS1
  clear hS2
  clear bx
  rw [HZ.out] at hC ⊢
  go_wp2_with fail
  refine hK.out _ _ trivial (fun hHeld => ?_)
  clear hK K
  (try simp only [List.getElem_toArray, List.getElem_cons_succ, List.getElem_cons_zero, Act.put, List.setIfInBounds_toArray, List.set_cons_zero, List.set_cons_succ])
  refine wpAnyH_ready (rs := [8]) (by kernel_rfl) (by simp) (AllReadyH.cons (o := _) rfl (fun K hK => ?_) AllReadyH.nil)
  go_simp
  go_at_call 26
  refine (copy_v hC hFr hlr hL).mono ?_
  rintro e w3 ⟨A9, c9, ys, rfl, hR9, hF9, hp9, hb⟩
  replace hFr := hFr.below hb
  replace hC := hC.below hb
  replace H0 := H0.trans (hb.mono H0.size)
  clear hb
  clear hC
  clear hFr
  go_wp2_with fail
  refine hK.out _ _ trivial (fun hHeld => ?_)
  clear hK K
  (try simp only [List.getElem_toArray, List.getElem_cons_succ, List.getElem_cons_zero, Act.put, List.setIfInBounds_toArray, List.set_cons_zero, List.set_cons_succ])
  refine wpAnyH_take (i := 9) (v := ?_) rfl (by kernel_rfl) (by kernel_rfl) (by kernel_rfl) (fun _ _ _ h => h) (Or.inl ⟨by rfl, ?_⟩) (by assumption) ?_
  rotate_left
  · (intro w hSw; (try dsimp only at hSw); go_simp; (try with_reducible rfl))
  (try simp only [List.getElem_toArray, List.getElem_cons_succ, List.getElem_cons_zero, Act.put, List.setIfInBounds_toArray, List.set_cons_zero, List.set_cons_succ])
  refine wpAnyH_take (i := 10) (v := ?_) rfl (by kernel_rfl) (by kernel_rfl) (by kernel_rfl) (fun _ _ _ h => h) (Or.inl ⟨by rfl, ?_⟩) (by assumption) ?_
  rotate_left
  · (intro w hSw; (try dsimp only at hSw); go_simp; (try with_reducible rfl))
  (try simp only [List.getElem_toArray, List.getElem_cons_succ, List.getElem_cons_zero, Act.put, List.setIfInBounds_toArray, List.set_cons_zero, List.set_cons_succ])
  refine wpAnyH_done (by kernel_rfl) ?_ _
  refine NoPanic.normal ?_
  go_wp2_with fail
  go_returns
  exact ⟨m, _, _, ys, rfl, hm, HM.out, hR9, hF9, by rw [hp9, ← HZ.out]; rfl, H0⟩
end
end Go.Proofs.YthmmnmajkeoaaabGreatDoor
namespace Go.Proofs.YthmmnmajkeoaaabGreatDoor
open Go.RowKit
section
variable {w : World} {L : Nat}
theorem cmpP {a b : Rat × Rat} : (cmpQ a.1 a.2 b.1 b.2 = 1 ∧ ptLt b a) ∨ (cmpQ a.1 a.2 b.1 b.2 = 0 ∧ a = b) ∨ (cmpQ a.1 a.2 b.1 b.2 = -1 ∧ ptLt a b) := by
  have h := cmpQ_lt (x := { (default : PP) with q0 := a.1, q1 := a.2 }) (y := { (default : PP) with q0 := b.1, q1 := b.2 })
  exact h
theorem lex_rot {n i j : Nat} {l m : List (Rat × Rat)} {a : Nat → Rat × Rat} (hl : ∀ t, t < n → l[t]? = some (a (i + t))) (hm : ∀ t, t < n → m[t]? = some (a (j + t))) (hll : l.length = n) (hlm : m.length = n) : lexC l m < 0 ↔ RotLt ptLt a n i j := by
  have key : ∀ d k, k + d = n → (∀ t, t < k → a (i + t) = a (j + t)) → (lexC (l.drop k) (m.drop k) < 0 ↔ ∃ k', k ≤ k' ∧ k' < n ∧ (∀ t, t < k' → a (i + t) = a (j + t)) ∧ ptLt (a (i + k')) (a (j + k'))) := by
    intro d
    induction d with
    | zero =>
      intro k hk _
      rw [lexC_nil (by omega), if_neg (by omega)]
      constructor
      · intro h; omega
      · rintro ⟨k', h1, h2, _⟩; omega
    | succ d ih =>
      intro k hk he
      rw [lexC_eq (hl k (by omega)) (hm k (by omega))]
      rcases cmpP (a := a (i + k)) (b := a (j + k)) with ⟨e, hlt⟩ | ⟨e, heq⟩ | ⟨e, hlt⟩
      · rw [if_neg (by rw [e]; decide), e]
        constructor
        · intro h; omega
        · rintro ⟨k', h1, h2, h3, h4⟩
          rcases Nat.lt_or_ge k k' with h5 | h5
          · rw [h3 k h5] at hlt; exact absurd hlt (ptLt_tot.irr _)
          · rw [show k' = k by omega] at h4; exact absurd (ptLt_tot.trans h4 hlt) (ptLt_tot.irr _)
      · rw [if_pos e, ih (k + 1) (by omega) (fun t ht => (Nat.lt_succ_iff_lt_or_eq.1 ht).elim (he t) (fun h => by rw [h]; exact heq))]
        constructor
        · rintro ⟨k', h1, h2⟩; exact ⟨k', by omega, h2⟩
        · rintro ⟨k', h1, h2, h3, h4⟩
          refine ⟨k', ?_, h2, h3, h4⟩
          rcases Nat.lt_or_ge k k' with h5 | h5
          · omega
          · rw [show k' = k by omega, heq] at h4; exact absurd h4 (ptLt_tot.irr _)
      · rw [if_neg (by rw [e]; decide), e]
        exact ⟨fun _ => ⟨k, Nat.le_refl _, by omega, he, hlt⟩, fun _ => by decide⟩
  have h := key n 0 (by omega) (fun t ht => by omega)
  rw [List.drop_zero, List.drop_zero] at h
  rw [h]
  constructor
  · rintro ⟨k', _, h2⟩; exact ⟨k', h2⟩
  · rintro ⟨k', h2⟩; exact ⟨k', Nat.zero_le _, h2⟩
theorem rot_lex {zs : List PP} {i m : Nat} (hi : i ≤ zs.length) (hm : m ≤ zs.length) : lexC ((rotL i zs).map PP.pt) ((rotL m zs).map PP.pt) < 0 ↔ RotLt ptLt (rotF zs) zs.length i m :=
  lex_rot (fun _ ht => rotL_get hi ht) (fun _ ht => rotL_get hm ht) (by rw [List.length_map, rotL_len]) (by rw [List.length_map, rotL_len])
theorem rot_eq {zs : List PP} {i m : Nat} (hi : i ≤ zs.length) (hm : m ≤ zs.length) (h1 : RotMin ptLt (rotF zs) zs.length i) (h2 : RotMin ptLt (rotF zs) zs.length m) : (rotL i zs).map PP.pt = (rotL m zs).map PP.pt := by
  refine List.ext_getElem? fun t => ?_
  rcases Nat.lt_or_ge t zs.length with h | h
  · rw [rotL_get hi h, rotL_get hm h, rot_same ptLt_tot h1 h2 h]
  · rw [List.getElem?_eq_none (by rw [List.length_map, rotL_len]; exact h), List.getElem?_eq_none (by rw [List.length_map, rotL_len]; exact h)]
set_option maxRecDepth 100000 in
set_option maxHeartbeats 4000000 in
theorem rcanon_v {A : Option Addr} {n c : Nat} {zs : List PP} (hS : ReadR w 6 (.slice A n c) (rowsP zs)) (hF : FP w L zs) (h0 : 0 < zs.length) (hn : zs.length ≤ 4096) (hL : L ≤ 100) :
    Calls Tryz.prog 12 #[.slice A n c] w fun e w' => ∃ m A' c' ys, e = .returned (.slice A' ys.length c') ∧ m < zs.length ∧ RotMin ptLt (rotF zs) zs.length m ∧ ReadR w' 6 (.slice A' ys.length c') (rowsP ys) ∧ FP w' L ys ∧ ys.map PP.pt = (rotL m zs).map PP.pt ∧ Below w.heap.size w w' := by
  obtain rfl := pp_len hS
  obtain ⟨g, o, rfl, e0, _⟩ := pp_elem (i := 0) (x := zs.getD 0 default) hS (get_ok h0)
  clear e0
  have hc0 : zs.length ≤ c := by obtain ⟨_, _, _, e1, h1, _⟩ := hS; injection e1 with _ e2 e3; omega
  go_enter Tryz.func12, Tryz.ntmps12
  go_wp2_with fail
  go_loopw [3, 9] (fun t3 t9 wr => ∃ (i m : Nat) (A9 : Option Addr) (c9 : Nat) (ys : List PP), i ≤ zs.length ∧ t9 = .int .i64 (i : Int) ∧ t3 = .slice A9 ys.length c9 ∧ m < zs.length ∧ ReadR wr 6 (.slice A9 ys.length c9) (rowsP ys) ∧ FP wr L ys ∧ ys.map PP.pt = (rotL m zs).map PP.pt ∧ (∀ s, s < i → ¬ RotLt ptLt (rotF zs) zs.length s m) ∧ Below w.heap.size w wr) (fun _ t9 _ => zs.length - (intOf t9).toNat)
  case atStart => exact ⟨0, 0, _, _, zs, Nat.zero_le _, rfl, rfl, h0, hS, hF, by unfold rotL; simp, fun s hs => by omega, Below.refl _ _⟩
  case round =>
    obtain ⟨i, m, A9, c9, ys, hi, rfl, rfl, hm, hB, hFB, hpt, hno, H0⟩ := hrel
    have HPT := Lib.hid hpt
    have HNO := Lib.hid hno
    clear hpt hno
    by_cases hlt : i < zs.length
    · replace hS := hS.below H0
      replace hF := hF.below H0
      have hS1 := part_pp hS (i := i) (j := zs.length) (by omega) (Nat.le_refl _)
      have hS2 := part_pp hS (i := 0) (j := i) (Nat.zero_le _) (by omega)
      rw [List.take_of_length_le (Nat.le_refl _)] at hS1
      simp only [Nat.zero_mul, Nat.add_zero, Nat.sub_zero, List.drop_zero] at hS2
      have hic : i ≤ c := by omega
      have hil : i ≤ zs.length := by omega
      have hci : ¬ c = i := by omega
      have hlm : ∀ (l : List PP), l.length ≤ zs.length → (([] : List (List Value)).length + (rowsP l).length ≤ 200000) := fun l hl => by rw [rowsP_len]; simp; omega
      have hl1 := hlm (zs.drop i) (by rw [List.length_drop]; omega)
      have hl2 : (rowsP (zs.drop i)).length + (rowsP (zs.take i)).length ≤ 200000 := by rw [rowsP_len, rowsP_len, List.length_drop, List.length_take]; omega
      clear hlm
      go_upto_region 5 with fail
      have hD := drawn_below wr
      replace hS := hS.below hD
      replace hF := hF.below hD
      replace hS1 := hS1.below hD
      replace hS2 := hS2.below hD
      replace hB := hB.below hD
      replace hFB := hFB.below hD
      replace H0 := H0.trans (hD.mono H0.size)
      clear hD
      refine wp_region_noPanic ?_
      refine wp_region_held_drew (S := (fun _ => True)) (by kernel_rfl) trivial (fun hHeld => ?_)
      generalize wr.drew = v0 at H0 hS hF hS1 hS2 hB hFB ⊢
      refine wpAnyH_take (i := 1) (v := ?_) rfl (by kernel_rfl) (by kernel_rfl) (by kernel_rfl) (fun _ _ _ h => h) (Or.inl ⟨by rfl, ?_⟩) (by assumption) ?_
      rotate_left
      · (intro w hSw; (try dsimp only at hSw); go_simp; (try with_reducible rfl))
      (try simp only [List.getElem_toArray, List.getElem_cons_succ, List.getElem_cons_zero, Act.put, List.setIfInBounds_toArray, List.set_cons_zero, List.set_cons_succ])
      refine wpAnyH_take (i := 2) (v := ?_) rfl (by kernel_rfl) (by kernel_rfl) (by kernel_rfl) (fun _ _ _ h => h) (Or.inl ⟨by rfl, ?_⟩) (by assumption) ?_
      rotate_left
      · (intro w hSw; (try dsimp only at hSw); go_simp; (try with_reducible rfl))
      (try simp only [List.getElem_toArray, List.getElem_cons_succ, List.getElem_cons_zero, Act.put, List.setIfInBounds_toArray, List.set_cons_zero, List.set_cons_succ])
      refine wpAnyH_take (i := 3) (v := ?_) rfl (by kernel_rfl) (by kernel_rfl) (by kernel_rfl) (fun _ _ _ h => h) (Or.inl ⟨by rfl, ?_⟩) (by assumption) ?_
      rotate_left
      · (intro w hSw; (try dsimp only at hSw); go_simp; (try with_reducible rfl))
      (try simp only [List.getElem_toArray, List.getElem_cons_succ, List.getElem_cons_zero, Act.put, List.setIfInBounds_toArray, List.set_cons_zero, List.set_cons_succ])
      refine wpAnyH_take (i := 5) (v := ?_) rfl (by kernel_rfl) (by kernel_rfl) (by kernel_rfl) (fun _ _ _ h => h) (Or.inl ⟨by rfl, ?_⟩) (by assumption) ?_
      rotate_left
      · (intro w hSw; (try dsimp only at hSw); go_simp; (try with_reducible rfl))
      (try simp only [List.getElem_toArray, List.getElem_cons_succ, List.getElem_cons_zero, Act.put, List.setIfInBounds_toArray, List.set_cons_zero, List.set_cons_succ])
      refine wpAnyH_take (i := 6) (v := ?_) rfl (by kernel_rfl) (by kernel_rfl) (by kernel_rfl) (fun _ _ _ h => h) (Or.inl ⟨by rfl, ?_⟩) (by assumption) ?_
      rotate_left
      · (intro w hSw; (try dsimp only at hSw); go_simp; (try with_reducible rfl))
      (try simp only [List.getElem_toArray, List.getElem_cons_succ, List.getElem_cons_zero, Act.put, List.setIfInBounds_toArray, List.set_cons_zero, List.set_cons_succ])
      refine wpAnyH_take (i := 7) (v := ?_) rfl (by kernel_rfl) (by kernel_rfl) (by kernel_rfl) (fun _ _ _ h => h) (Or.inl ⟨by rfl, ?_⟩) (by assumption) ?_
      rotate_left
      · (intro w hSw; (try dsimp only at hSw); go_simp; (try with_reducible rfl))
      (try simp only [List.getElem_toArray, List.getElem_cons_succ, List.getElem_cons_zero, Act.put, List.setIfInBounds_toArray, List.set_cons_zero, List.set_cons_succ])
      refine wpAnyH_ready (rs := [0]) (by kernel_rfl) (by simp) (AllReadyH.cons (o := _) rfl (fun K hK => ?_) AllReadyH.nil)
      go_simp
      have hO := OwnE.empty (e := 51) (k := 6) v0 (Nat.le_refl _)
      have G0 : Below v0.heap.size v0 (v0.alloc (.cells #[] 51)) := (Below.refl _ _).alloc (Nat.le_refl _) _
      generalize v0.alloc (.cells #[] 51) = w0_ at hO G0 ⊢
      refine hK.out _ _ trivial (fun hHeld => ?_)
      clear hK K
      (try simp only [List.getElem_toArray, List.getElem_cons_succ, List.getElem_cons_zero, Act.put, List.setIfInBounds_toArray, List.set_cons_zero, List.set_cons_succ])
      refine wpAnyH_ready (rs := [4]) (by kernel_rfl) (by simp) (AllReadyH.cons (o := _) rfl (fun K hK => ?_) AllReadyH.nil)
      rw [if_pos (by rfl)]
      have hS1b := hS1.below G0
      refine op_append_rows (css := []) (css' := rowsP (zs.drop i)) _ _ rfl elem_gp v0.heap.size rfl hO rfl hS1b (rowsP_cells _) hl1 G0.size ?_
      intro v1_ w1_ hO1 hg1
      have G1 := G0.trans (hO.trod hg1 G0.size)
      rw [List.nil_append] at hO1
      clear hO hg1 G0 hS1b
      refine hK.out _ _ trivial (fun hHeld => ?_)
      clear hK K
      (try simp only [List.getElem_toArray, List.getElem_cons_succ, List.getElem_cons_zero, Act.put, List.setIfInBounds_toArray, List.set_cons_zero, List.set_cons_succ])
      refine wpAnyH_ready (rs := [8]) (by kernel_rfl) (by simp) (AllReadyH.cons (o := _) rfl (fun K hK => ?_) AllReadyH.nil)
      rw [if_pos (by rfl)]
      have hS2b := hS2.below G1
      refine op_append_rows (css := rowsP (zs.drop i)) (css' := rowsP (zs.take i)) _ _ rfl elem_gp v0.heap.size rfl hO1 rfl hS2b (rowsP_cells _) hl2 G1.size ?_
      intro v2_ w2_ hO2 hg2
      have G2 := G1.trans (hO1.trod hg2 G1.size)
      replace hO2 : OwnE w2_ v0.heap.size 51 6 v2_ (rowsP (rotL i zs)) := by unfold rowsP rotL at *; rw [List.map_append]; exact hO2
      obtain ⟨A2_, c2_, hv2, hx1, hx2⟩ := hO2.form
      rw [rowsP_len, rotL_len] at hv2
      subst hv2
      clear hx1 hx2 hg2 hO1 G1 hS2b
      refine hK.out _ _ trivial (fun hHeld => ?_)
      clear hK K
      (try simp only [List.getElem_toArray, List.getElem_cons_succ, List.getElem_cons_zero, Act.put, List.setIfInBounds_toArray, List.set_cons_zero, List.set_cons_succ])
      refine wpAnyH_take (i := 9) (v := ?_) rfl (by kernel_rfl) (by kernel_rfl) (by kernel_rfl) (fun _ _ _ h => h) (Or.inl ⟨by rfl, ?_⟩) (by assumption) ?_
      rotate_left
      · (intro w hSw; (try dsimp only at hSw); go_simp; (try with_reducible rfl))
      (try simp only [List.getElem_toArray, List.getElem_cons_succ, List.getElem_cons_zero, Act.put, List.setIfInBounds_toArray, List.set_cons_zero, List.set_cons_succ])
      refine wpAnyH_done (by kernel_rfl) ?_ _
      refine NoPanic.normal ?_
      go_wp2_with fail
      have hR := hO2.read
      have hFr : FP w2_ L (rotL i zs) := fun z hz => (hF.below G2) z ((List.mem_append.1 hz).elim List.mem_of_mem_drop List.mem_of_mem_take)
      replace hB := hB.below G2
      replace hFB := hFB.below G2
      replace H0 := H0.trans (G2.mono H0.size)
      clear hO2 G2 hF hS hS1 hS2
      have hln : (rotL i zs).length ≤ 90000 := by rw [rotL_len]; omega
      have hR2 : ReadR w2_ 6 (.slice A2_ zs.length c2_) (rowsP (rotL i zs)) := hR
      clear hR
      obtain ⟨kc, hkc⟩ : ∃ k, lexC ((rotL i zs).map PP.pt) (ys.map PP.pt) = k := ⟨_, rfl⟩
      have hro := rot_lex (zs := zs) hil (Nat.le_of_lt hm)
      rw [← HPT.out, hkc] at hro
      have HRO := Lib.hid hro
      have HKC := Lib.hid hkc
      clear hro hkc
      refine (rcompare_v hR2 hFr hB hFB hln hL hL).mono ?_
      rintro e w3 ⟨rfl, hb⟩
      rw [HKC.out]
      replace hR2 := hR2.below hb
      replace hFr := hFr.below hb
      replace hB := hB.below hb
      replace hFB := hFB.below hb
      replace H0 := H0.trans (hb.mono H0.size)
      clear hb hln
      by_cases hneg : kc < 0
      · have dn : decide (kc < 0) = true := decide_eq_true hneg
        have hrl := HRO.out.1 hneg
        have HN2 : Hid (∀ s, s < i + 1 → ¬ RotLt ptLt (rotF zs) zs.length s i) := Lib.hid (fun s hs hl => by
          rcases Nat.lt_or_ge s i with h5 | h5
          · exact HNO.out s h5 (hl.trans ptLt_tot hrl)
          · rw [show s = i by omega] at hl; exact RotLt.irr ptLt_tot hl)
        have hls : zs.length = (rotL i zs).length := (rotL_len i zs).symm
        have HLS := Lib.hid hls
        clear hrl hls
        go_wp2_with fail
        go_roundw
        case rel => exact ⟨i + 1, i, _, _, rotL i zs, by omega, by go_num, by rw [← HLS.out], hlt, by rw [← HLS.out]; exact hR2, hFr, rfl, HN2.out, H0⟩
        case measure => simp [intOf]; omega
      · have dn : decide (kc < 0) = false := decide_eq_false hneg
        have HN2 : Hid (∀ s, s < i + 1 → ¬ RotLt ptLt (rotF zs) zs.length s m) := Lib.hid (fun s hs hl => by
          rcases Nat.lt_or_ge s i with h5 | h5
          · exact HNO.out s h5 hl
          · rw [show s = i by omega] at hl; exact hneg (HRO.out.2 hl))
        go_wp2_with fail
        go_roundw
        case rel => exact ⟨i + 1, m, _, _, ys, by omega, by go_num, rfl, hm, hB, hFB, HPT.out, HN2.out, H0⟩
        case measure => simp [intOf]; omega
    · obtain rfl : i = zs.length := by omega
      have hrm : RotMin ptLt (rotF zs) zs.length m := rot_min_of (rotF_per zs) h0 HNO.out
      have HRM := Lib.hid hrm
      clear hS hrm
      go_wp2_with fail
      go_ret
      exact ⟨m, _, _, ys, rfl, hm, HRM.out, hB, hFB, HPT.out, H0⟩
end
end Go.Proofs.YthmmnmajkeoaaabGreatDoor
