/-
  A span of the tape.
-/
import Derived.Test.YtpgkkkodniiilaaGreatDoorWSq
import Derived.Test.YtpgkkkodniiilaaGreatDoorWSpY
import Derived.Test.YtpgkkkodniiilaaGreatDoorWTT
import Derived.IntWalk
import Derived.Deep.Cut
namespace Go.Proofs.YtpgkkkodniiilaaGreatDoor
open List (getElem_toArray getElem_cons_succ getElem_cons_zero setIfInBounds_toArray set_cons_zero set_cons_succ)
open Go.RowKit
section
variable {f0 h0 f1 h1 f2 h2 f3 h3 f4 h4 f5 h5 f6 h6 f7 h7 f8 h8 f9 h9 f10 h10 f11 h11 : Bool} {A0 A1 A2 D0 D1 D2 : Option Addr} {n0 n1 n2 c0 c1 c2 m0 m1 m2 e0 e1 e2 : Nat} {s0 s1 s2 s6 : Bool} {q0 q1 q2 q3 q4 q5 q6 q7 : Rat} {z0 z1 z2 z3 z4 z5 z6 z7 z8 z9 z10 z11 : Int} {L L0 L1 x y : Nat} {k : Int} {w : World}
variable {o0 o1 o2 o3 : Option Rat} {l l' : List Sp}
theorem info_s6 : (Tryz.prog.info? 39).map (·.size) = some 8 := by kernel_rfl
theorem ret_s6 {fn : Func} {p : Tmp} (h : fn.results = #[.cell p 39]) {tmps : Array Value} {w : World} {g : Nat} {a b c d e f x y : Value} {t : TypeId} (hp : tmps.getD p undef = .pointer (some ⟨g, 0, none⟩)) (hb : Box w g #[a, b, c, d, e, f, x, y] t) :
    (results fn tmps).run Tryz.prog w = .ok (.agg #[a, b, c, d, e, f, x, y]) w :=
  results_cell_row h tmps w g t #[a, b, c, d, e, f, x, y] (0, 0) _ hp hb Tryz.underlying39 rfl info_s6
theorem half_pos (q : Rat) (r : Nat) : q < q + mkRat (1 + (r : Int)) 2 := by
  have h : 0 < mkRat (1 + (r : Int)) 2 := by
    rw [Rat.mkRat_eq_div]
    have h1 : ((0 : Int) : Rat) < ((1 + (r : Int) : Int) : Rat) := Rat.intCast_lt_intCast.2 (by omega)
    grind
  grind
set_option maxRecDepth 100000 in
set_option maxHeartbeats 4000000 in
theorem full_v (w : World) :
    Calls Tryz.prog 30 #[] w fun e w' => e = .returned (.agg #[.bool false, .slice none 0 0, .slice none 0 0, .bool false, .slice none 0 0, .slice none 0 0, .bool true, .bool true]) ∧ Below w.heap.size w w' := by
  go_enter Tryz.func30, Tryz.ntmps30
  go_upto_region 1 with fail
  obtain ⟨W0, hW, b0, hbW, hszW0⟩ := boxes1 w #[.bool false, .slice none 0 0, .slice none 0 0, .bool false, .slice none 0 0, .slice none 0 0, .bool false, .bool false] 39
  rw [hW]
  clear hW
  have H0 := hbW
  clear hbW
  obtain ⟨cb00, yb00, cb01, yb01, cb02, yb02, cb03, yb03, cb04, yb04, cb05, yb05, cb06, yb06, cb07, yb07⟩ := b0.cf8
  go_wp2_with fail
  clear cb00 yb00 cb01 yb01 cb02 yb02 cb03 yb03 cb04 yb04 cb05 yb05 cb06 yb06 cb07 yb07
  have hg : World.grownBy W0 ((((((((W0.setCell ⟨w.heap.size, 0, none⟩ (.bool false)).setCell ⟨w.heap.size, 1, none⟩ (.slice none 0 0)).setCell ⟨w.heap.size, 2, none⟩ (.slice none 0 0)).setCell ⟨w.heap.size, 3, none⟩ (.bool false)).setCell ⟨w.heap.size, 4, none⟩ (.slice none 0 0)).setCell ⟨w.heap.size, 5, none⟩ (.slice none 0 0)).setCell ⟨w.heap.size, 6, none⟩ (.bool true)).setCell ⟨w.heap.size, 7, none⟩ (.bool true)) (some (w.heap.size)) := only_trans (only_trans (only_trans (only_trans (only_trans (only_trans (only_trans (only_setCell _ ⟨w.heap.size, 0, none⟩ (.bool false)) (only_setCell _ ⟨w.heap.size, 1, none⟩ (.slice none 0 0))) (only_setCell _ ⟨w.heap.size, 2, none⟩ (.slice none 0 0))) (only_setCell _ ⟨w.heap.size, 3, none⟩ (.bool false))) (only_setCell _ ⟨w.heap.size, 4, none⟩ (.slice none 0 0))) (only_setCell _ ⟨w.heap.size, 5, none⟩ (.slice none 0 0))) (only_setCell _ ⟨w.heap.size, 6, none⟩ (.bool true))) (only_setCell _ ⟨w.heap.size, 7, none⟩ (.bool true))
  have hB : Box ((((((((W0.setCell ⟨w.heap.size, 0, none⟩ (.bool false)).setCell ⟨w.heap.size, 1, none⟩ (.slice none 0 0)).setCell ⟨w.heap.size, 2, none⟩ (.slice none 0 0)).setCell ⟨w.heap.size, 3, none⟩ (.bool false)).setCell ⟨w.heap.size, 4, none⟩ (.slice none 0 0)).setCell ⟨w.heap.size, 5, none⟩ (.slice none 0 0)).setCell ⟨w.heap.size, 6, none⟩ (.bool true)).setCell ⟨w.heap.size, 7, none⟩ (.bool true)) (w.heap.size) #[.bool false, .slice none 0 0, .slice none 0 0, .bool false, .slice none 0 0, .slice none 0 0, .bool true, .bool true] 39 := (Box.step (Box.step (Box.step (Box.step (Box.step (Box.step (Box.step (Box.step b0 0 (.bool false)) 1 (.slice none 0 0)) 2 (.slice none 0 0)) 3 (.bool false)) 4 (.slice none 0 0)) 5 (.slice none 0 0)) 6 (.bool true)) 7 (.bool true))
  generalize hX : ((((((((W0.setCell ⟨w.heap.size, 0, none⟩ (.bool false)).setCell ⟨w.heap.size, 1, none⟩ (.slice none 0 0)).setCell ⟨w.heap.size, 2, none⟩ (.slice none 0 0)).setCell ⟨w.heap.size, 3, none⟩ (.bool false)).setCell ⟨w.heap.size, 4, none⟩ (.slice none 0 0)).setCell ⟨w.heap.size, 5, none⟩ (.slice none 0 0)).setCell ⟨w.heap.size, 6, none⟩ (.bool true)).setCell ⟨w.heap.size, 7, none⟩ (.bool true)) = X1 at hg hB ⊢
  clear hX
  replace b0 := hB
  replace H0 := below_only H0 hg (by omega) H0.size
  clear hg hB
  refine bodyPost_ret (ret_s6 rfl rfl b0) rfl ?_
  exact ⟨rfl, H0⟩
set_option maxRecDepth 100000 in
set_option maxHeartbeats 4000000 in
theorem ts_v {b : Nat} (hT : Tape w b) (hb : b < w.heap.size) :
    Calls Tryz.prog 61 #[.pointer (some ⟨b, 0, none⟩)] w fun e w' => ∃ sp : Sp, ∃ (s0 : Bool), ∃ (A0 : Option Addr), ∃ (n0 : Nat), ∃ (c0 : Nat), ∃ (D0 : Option Addr), ∃ (m0 : Nat), ∃ (e0 : Nat), ∃ (s1 : Bool), ∃ (A1 : Option Addr), ∃ (n1 : Nat), ∃ (c1 : Nat), ∃ (D1 : Option Addr), ∃ (m1 : Nat), ∃ (e1 : Nat), ∃ (f0 : Bool), ∃ (h0 : Bool), e = .returned (.agg #[.bool s0, .slice A0 n0 c0, .slice D0 m0 e0, .bool s1, .slice A1 n1 c1, .slice D1 m1 e1, .bool f0, .bool h0]) ∧ (∀ a c, sp.lo = some a → sp.hi = some c → a < c) ∧ EndP w' 5 s0 (.slice A0 n0 c0) (.slice D0 m0 e0) f0 sp.lo ∧ EndP w' 5 s1 (.slice A1 n1 c1) (.slice D1 m1 e1) h0 sp.hi ∧ Tape w' b ∧ w.grownBy w' (some b) := by
  go_enter Tryz.func61, Tryz.ntmps61
  go_upto_region 1 with fail
  have G0 : w.grownBy w (some b) := ⟨rfl, rfl, rfl, Nat.le_refl _, fun _ _ _ => rfl⟩
  have hlt := hb
  obtain ⟨W0, hW, b9, hbW, hszW0⟩ := boxes1 w #[.bool false, .slice none 0 0, .slice none 0 0, .bool false, .slice none 0 0, .slice none 0 0, .bool false, .bool false] 39
  rw [hW]
  clear hW
  replace hT := hT.keep hbW hlt
  replace hlt := Nat.lt_of_lt_of_le hlt hbW.size
  replace G0 := only_below G0 hbW G0.size
  clear hbW
  go_wp2_with fail
  refine (tq_v hT hlt).mono ?_
  rintro e w1 ⟨q0, s0, A0, n0, c0, D0, m0, e0, rfl, p0, hT', hg⟩
  replace b9 := b9.other hg (by omega)
  replace hlt := Nat.lt_of_lt_of_le hlt hg.size
  replace G0 := only_trans G0 hg
  clear hT
  have hT := hT'
  clear hT' hg
  have lb9_2 := b9.lt
  obtain ⟨W2, hW, b3, hbW, hszW2⟩ := boxes1 w1 #[.bool s0, .slice A0 n0 c0, .slice D0 m0 e0] 37
  skip
  skip
  replace p0 := p0.below hbW
  replace b9 := b9.below hbW
  replace hT := hT.keep hbW hlt
  replace hlt := Nat.lt_of_lt_of_le hlt hbW.size
  replace G0 := only_below G0 hbW G0.size
  clear hbW
  obtain ⟨cb30, cb31, cb32⟩ := b3.cells3
  go_wp2_with fail
  clear hW
  clear cb30 cb31 cb32
  go_cut [4] from 5 (fun s_4 wx => ∃ g q1 s1 A1 n1 c1 D1 m1 e1, s_4 = .pointer (some ⟨g, 0, none⟩) ∧ q0 < q1 ∧ PQ wx s0 (.slice A0 n0 c0) (.slice D0 m0 e0) q0 2 ∧ PQ wx s1 (.slice A1 n1 c1) (.slice D1 m1 e1) q1 5 ∧ Box wx g #[.bool s0, .slice A0 n0 c0, .slice D0 m0 e0, .bool s1, .slice A1 n1 c1, .slice D1 m1 e1, .bool false, .bool false] 39 ∧ Box wx (w.heap.size) #[.bool false, .slice none 0 0, .slice none 0 0, .bool false, .slice none 0 0, .slice none 0 0, .bool false, .bool false] 39 ∧ w.heap.size < g ∧ Tape wx b ∧ w.grownBy wx (some b) ∧ b < wx.heap.size)
  case first =>
    have hD := drawn_below W2
    replace p0 := p0.below hD
    replace b9 := b9.below hD
    replace b3 := b3.below hD
    replace hT := hT.keep hD hlt
    replace hlt := Nat.lt_of_lt_of_le hlt hD.size
    replace G0 := only_below G0 hD G0.size
    clear hD
    refine wp_region_noPanic ?_
    refine wp_region_held_drew (S := (fun V => V.cell? ⟨w1.heap.size, 0, none⟩ = some (.bool s0) ∧ V.cell? ⟨w1.heap.size, 1, none⟩ = some (.slice A0 n0 c0) ∧ V.cell? ⟨w1.heap.size, 2, none⟩ = some (.slice D0 m0 e0))) (by kernel_rfl) (b3.all3) (fun hHeld => ?_)
    generalize W2.drew = v3 at p0 b9 b3 hT G0 hlt hHeld ⊢
    refine todo [0, 1, 2] ?_
    iterate 3
      refine tkT ?_ rfl (by kernel_rfl) (fun _ _ _ h => h) (by rfl) (by assumption) ?_ ?_
      rotate_left
      · (intro w hSw; (try dsimp only at hSw); go_simp; (try with_reducible rfl))
      (try simp only [getElem_toArray, getElem_cons_succ, getElem_cons_zero, Act.put, setIfInBounds_toArray, set_cons_zero, set_cons_succ])
    refine tdone ?_
    refine wpAnyH_ready (rs := [3, 8]) (by kernel_rfl) (by simp) (AllReadyH.cons (o := _) rfl (fun K hK => ?_) (AllReadyH.cons (o := _) rfl (fun K hK => ?_) AllReadyH.nil))
    · go_simp
      go_at_call 35
      refine (next_any 6 (by omega) (by omega) hT).mono ?_
      rintro e y4 ⟨r, rfl, hr, hT', hg⟩
      replace p0 := p0.tape hT hg
      replace b9 := b9.other hg (by omega)
      replace b3 := b3.other hg (by omega)
      replace hlt := Nat.lt_of_lt_of_le hlt hg.size
      replace G0 := only_trans G0 hg
      clear hT
      have hT := hT'
      clear hT' hg
      have hw6 : IntKind.i64.wrap (1 + (r : Int)) = 1 + (r : Int) := IntWalk.i64_in _ (by omega)
      go_wp2_with fail
      refine hK.out _ _ (b3.all3) (fun hHeld => ?_)
      clear hK K
      (try simp only [getElem_toArray, getElem_cons_succ, getElem_cons_zero, Act.put, setIfInBounds_toArray, set_cons_zero, set_cons_succ])
      refine tk 4 ?_ rfl (by kernel_rfl) (fun _ _ _ h => h) (by rfl) (by assumption) ?_ ?_
      rotate_left
      · (intro w hSw; (try dsimp only at hSw); go_simp; (try with_reducible rfl))
      (try simp only [getElem_toArray, getElem_cons_succ, getElem_cons_zero, Act.put, setIfInBounds_toArray, set_cons_zero, set_cons_succ])
      refine wpAnyH_ready (rs := [5, 8]) (by kernel_rfl) (by simp) (AllReadyH.cons (o := _) rfl (fun K hK => ?_) (AllReadyH.cons (o := _) rfl (fun K hK => ?_) AllReadyH.nil))
      · go_simp
        go_at_call 34
        refine (npart_v (d := 2) (1 + (r : Int)) (by omega) (by omega) (.inl rfl)).mono ?_
        rintro e y5 ⟨s2, A2, n2, c2, D2, m2, e2, rfl, p2, hb9⟩
        replace p0 := p0.below hb9
        replace b9 := b9.below hb9
        replace b3 := b3.below hb9
        replace hT := hT.keep hb9 hlt
        replace hlt := Nat.lt_of_lt_of_le hlt hb9.size
        replace G0 := only_below G0 hb9 G0.size
        clear hb9
        go_wp2_with fail
        refine hK.out _ _ (b3.all3) (fun hHeld => ?_)
        clear hK K
        (try simp only [getElem_toArray, getElem_cons_succ, getElem_cons_zero, Act.put, setIfInBounds_toArray, set_cons_zero, set_cons_succ])
        refine wpAnyH_ready (rs := [6, 8]) (by kernel_rfl) (by simp) (AllReadyH.cons (o := _) rfl (fun K hK => ?_) (AllReadyH.cons (o := _) rfl (fun K hK => ?_) AllReadyH.nil))
        · go_simp
          go_at_call 32
          refine (nplus_v p0 p2 (by decide) (by decide)).mono ?_
          rintro e y6 ⟨s1, A1, n1, c1, D1, m1, e1, rfl, p1, hb9⟩
          replace p0 := p0.below hb9
          replace p2 := p2.below hb9
          replace b9 := b9.below hb9
          replace b3 := b3.below hb9
          replace hT := hT.keep hb9 hlt
          replace hlt := Nat.lt_of_lt_of_le hlt hb9.size
          replace G0 := only_below G0 hb9 G0.size
          clear hb9
          clear p2
          go_wp2_with fail
          refine hK.out _ _ (b3.all3) (fun hHeld => ?_)
          clear hK K
          (try simp only [getElem_toArray, getElem_cons_succ, getElem_cons_zero, Act.put, setIfInBounds_toArray, set_cons_zero, set_cons_succ])
          refine tk 7 ?_ rfl (by kernel_rfl) (fun _ _ _ h => h) (by rfl) (by assumption) ?_ ?_
          rotate_left
          · (intro w hSw; (try dsimp only at hSw); go_simp; (try with_reducible rfl))
          (try simp only [getElem_toArray, getElem_cons_succ, getElem_cons_zero, Act.put, setIfInBounds_toArray, set_cons_zero, set_cons_succ])
          refine rd1 8 (by kernel_rfl) rfl (fun K hK => ?_)
          have lb9_7 := b9.lt
          have lb3_7 := b3.lt
          go_simp
          obtain ⟨y7, hV, b4, hb9, szy7⟩ := boxes1 y6 #[.bool false, .slice none 0 0, .slice none 0 0, .bool false, .slice none 0 0, .slice none 0 0, .bool false, .bool false] 39
          rw [hV]
          clear hV
          replace p0 := p0.below hb9
          replace p1 := p1.below hb9
          replace b9 := b9.below hb9
          replace b3 := b3.below hb9
          replace hT := hT.keep hb9 hlt
          replace hlt := Nat.lt_of_lt_of_le hlt hb9.size
          replace G0 := only_below G0 hb9 G0.size
          clear hb9
          refine hK.out _ _ (b3.all3) (fun hHeld => ?_)
          clear hK K
          (try simp only [getElem_toArray, getElem_cons_succ, getElem_cons_zero, Act.put, setIfInBounds_toArray, set_cons_zero, set_cons_succ])
          obtain ⟨cb40, yb40, cb41, yb41, cb42, yb42, cb43, yb43, cb44, yb44, cb45, yb45, cb46, yb46, cb47, yb47⟩ := b4.cf8
          refine rd1 9 (by kernel_rfl) rfl (fun K hK => ?_)
          go_simp
          clear cb40 yb40 cb41 yb41 cb42 yb42 cb43 yb43 cb44 yb44 cb45 yb45 cb46 yb46 cb47 yb47
          have hg : World.grownBy y7 ((((((((y7.setCell ⟨y6.heap.size, 0, none⟩ (.bool s0)).setCell ⟨y6.heap.size, 1, none⟩ (.slice A0 n0 c0)).setCell ⟨y6.heap.size, 2, none⟩ (.slice D0 m0 e0)).setCell ⟨y6.heap.size, 3, none⟩ (.bool s1)).setCell ⟨y6.heap.size, 4, none⟩ (.slice A1 n1 c1)).setCell ⟨y6.heap.size, 5, none⟩ (.slice D1 m1 e1)).setCell ⟨y6.heap.size, 6, none⟩ (.bool false)).setCell ⟨y6.heap.size, 7, none⟩ (.bool false)) (some (y6.heap.size)) := only_trans (only_trans (only_trans (only_trans (only_trans (only_trans (only_trans (only_setCell _ ⟨y6.heap.size, 0, none⟩ (.bool s0)) (only_setCell _ ⟨y6.heap.size, 1, none⟩ (.slice A0 n0 c0))) (only_setCell _ ⟨y6.heap.size, 2, none⟩ (.slice D0 m0 e0))) (only_setCell _ ⟨y6.heap.size, 3, none⟩ (.bool s1))) (only_setCell _ ⟨y6.heap.size, 4, none⟩ (.slice A1 n1 c1))) (only_setCell _ ⟨y6.heap.size, 5, none⟩ (.slice D1 m1 e1))) (only_setCell _ ⟨y6.heap.size, 6, none⟩ (.bool false))) (only_setCell _ ⟨y6.heap.size, 7, none⟩ (.bool false))
          have hB : Box ((((((((y7.setCell ⟨y6.heap.size, 0, none⟩ (.bool s0)).setCell ⟨y6.heap.size, 1, none⟩ (.slice A0 n0 c0)).setCell ⟨y6.heap.size, 2, none⟩ (.slice D0 m0 e0)).setCell ⟨y6.heap.size, 3, none⟩ (.bool s1)).setCell ⟨y6.heap.size, 4, none⟩ (.slice A1 n1 c1)).setCell ⟨y6.heap.size, 5, none⟩ (.slice D1 m1 e1)).setCell ⟨y6.heap.size, 6, none⟩ (.bool false)).setCell ⟨y6.heap.size, 7, none⟩ (.bool false)) (y6.heap.size) #[.bool s0, .slice A0 n0 c0, .slice D0 m0 e0, .bool s1, .slice A1 n1 c1, .slice D1 m1 e1, .bool false, .bool false] 39 := (Box.step (Box.step (Box.step (Box.step (Box.step (Box.step (Box.step (Box.step b4 0 (.bool s0)) 1 (.slice A0 n0 c0)) 2 (.slice D0 m0 e0)) 3 (.bool s1)) 4 (.slice A1 n1 c1)) 5 (.slice D1 m1 e1)) 6 (.bool false)) 7 (.bool false))
          generalize hX : ((((((((y7.setCell ⟨y6.heap.size, 0, none⟩ (.bool s0)).setCell ⟨y6.heap.size, 1, none⟩ (.slice A0 n0 c0)).setCell ⟨y6.heap.size, 2, none⟩ (.slice D0 m0 e0)).setCell ⟨y6.heap.size, 3, none⟩ (.bool s1)).setCell ⟨y6.heap.size, 4, none⟩ (.slice A1 n1 c1)).setCell ⟨y6.heap.size, 5, none⟩ (.slice D1 m1 e1)).setCell ⟨y6.heap.size, 6, none⟩ (.bool false)).setCell ⟨y6.heap.size, 7, none⟩ (.bool false)) = X8 at hg hB ⊢
          clear hX
          replace p0 := p0.kept b4 (by simp [notInt]) hg
          replace p1 := p1.kept b4 (by simp [notInt]) hg
          replace b9 := b9.other hg (by omega)
          replace b3 := b3.other hg (by omega)
          replace b4 := hB
          have hBs := below_only (Below.refl w.heap.size y7) hg (by omega) G0.size
          replace hT := hT.keep hBs hb
          replace G0 := only_below G0 hBs (Nat.le_refl _)
          replace hlt := Nat.lt_of_lt_of_le hlt hg.size
          clear hg hB hBs
          refine hK.out _ _ (b3.all3) (fun hHeld => ?_)
          clear hK K
          (try simp only [getElem_toArray, getElem_cons_succ, getElem_cons_zero, Act.put, setIfInBounds_toArray, set_cons_zero, set_cons_succ])
          refine wpAnyH_done (by kernel_rfl) ?_ _
          refine NoPanic.normal ?_
          go_wp2_with fail
          go_meet
          exact ⟨_, _, s1, A1, n1, c1, D1, m1, e1, rfl, half_pos q0 r, p0, p1, b4, b9, by omega, hT, G0, hlt⟩
        · have lb9_6 := b9.lt
          have lb3_6 := b3.lt
          go_simp
          obtain ⟨y6, hV, b4, hb9, szy6⟩ := boxes1 y5 #[.bool false, .slice none 0 0, .slice none 0 0, .bool false, .slice none 0 0, .slice none 0 0, .bool false, .bool false] 39
          rw [hV]
          clear hV
          replace p0 := p0.below hb9
          replace p2 := p2.below hb9
          replace b9 := b9.below hb9
          replace b3 := b3.below hb9
          replace hT := hT.keep hb9 hlt
          replace hlt := Nat.lt_of_lt_of_le hlt hb9.size
          replace G0 := only_below G0 hb9 G0.size
          clear hb9
          refine hK.out _ _ (b3.all3) (fun hHeld => ?_)
          clear hK K
          (try simp only [getElem_toArray, getElem_cons_succ, getElem_cons_zero, Act.put, setIfInBounds_toArray, set_cons_zero, set_cons_succ])
          refine rd1 6 (by kernel_rfl) rfl (fun K hK => ?_)
          go_simp
          go_at_call 32
          refine (nplus_v p0 p2 (by decide) (by decide)).mono ?_
          rintro e y7 ⟨s1, A1, n1, c1, D1, m1, e1, rfl, p1, hb9⟩
          replace p0 := p0.below hb9
          replace p2 := p2.below hb9
          replace b9 := b9.below hb9
          replace b3 := b3.below hb9
          replace b4 := b4.below hb9
          replace hT := hT.keep hb9 hlt
          replace hlt := Nat.lt_of_lt_of_le hlt hb9.size
          replace G0 := only_below G0 hb9 G0.size
          clear hb9
          clear p2
          go_wp2_with fail
          refine hK.out _ _ (b3.all3) (fun hHeld => ?_)
          clear hK K
          (try simp only [getElem_toArray, getElem_cons_succ, getElem_cons_zero, Act.put, setIfInBounds_toArray, set_cons_zero, set_cons_succ])
          refine tk 7 ?_ rfl (by kernel_rfl) (fun _ _ _ h => h) (by rfl) (by assumption) ?_ ?_
          rotate_left
          · (intro w hSw; (try dsimp only at hSw); go_simp; (try with_reducible rfl))
          (try simp only [getElem_toArray, getElem_cons_succ, getElem_cons_zero, Act.put, setIfInBounds_toArray, set_cons_zero, set_cons_succ])
          obtain ⟨cb40, yb40, cb41, yb41, cb42, yb42, cb43, yb43, cb44, yb44, cb45, yb45, cb46, yb46, cb47, yb47⟩ := b4.cf8
          refine rd1 9 (by kernel_rfl) rfl (fun K hK => ?_)
          go_simp
          clear cb40 yb40 cb41 yb41 cb42 yb42 cb43 yb43 cb44 yb44 cb45 yb45 cb46 yb46 cb47 yb47
          have hg : World.grownBy y7 ((((((((y7.setCell ⟨y5.heap.size, 0, none⟩ (.bool s0)).setCell ⟨y5.heap.size, 1, none⟩ (.slice A0 n0 c0)).setCell ⟨y5.heap.size, 2, none⟩ (.slice D0 m0 e0)).setCell ⟨y5.heap.size, 3, none⟩ (.bool s1)).setCell ⟨y5.heap.size, 4, none⟩ (.slice A1 n1 c1)).setCell ⟨y5.heap.size, 5, none⟩ (.slice D1 m1 e1)).setCell ⟨y5.heap.size, 6, none⟩ (.bool false)).setCell ⟨y5.heap.size, 7, none⟩ (.bool false)) (some (y5.heap.size)) := only_trans (only_trans (only_trans (only_trans (only_trans (only_trans (only_trans (only_setCell _ ⟨y5.heap.size, 0, none⟩ (.bool s0)) (only_setCell _ ⟨y5.heap.size, 1, none⟩ (.slice A0 n0 c0))) (only_setCell _ ⟨y5.heap.size, 2, none⟩ (.slice D0 m0 e0))) (only_setCell _ ⟨y5.heap.size, 3, none⟩ (.bool s1))) (only_setCell _ ⟨y5.heap.size, 4, none⟩ (.slice A1 n1 c1))) (only_setCell _ ⟨y5.heap.size, 5, none⟩ (.slice D1 m1 e1))) (only_setCell _ ⟨y5.heap.size, 6, none⟩ (.bool false))) (only_setCell _ ⟨y5.heap.size, 7, none⟩ (.bool false))
          have hB : Box ((((((((y7.setCell ⟨y5.heap.size, 0, none⟩ (.bool s0)).setCell ⟨y5.heap.size, 1, none⟩ (.slice A0 n0 c0)).setCell ⟨y5.heap.size, 2, none⟩ (.slice D0 m0 e0)).setCell ⟨y5.heap.size, 3, none⟩ (.bool s1)).setCell ⟨y5.heap.size, 4, none⟩ (.slice A1 n1 c1)).setCell ⟨y5.heap.size, 5, none⟩ (.slice D1 m1 e1)).setCell ⟨y5.heap.size, 6, none⟩ (.bool false)).setCell ⟨y5.heap.size, 7, none⟩ (.bool false)) (y5.heap.size) #[.bool s0, .slice A0 n0 c0, .slice D0 m0 e0, .bool s1, .slice A1 n1 c1, .slice D1 m1 e1, .bool false, .bool false] 39 := (Box.step (Box.step (Box.step (Box.step (Box.step (Box.step (Box.step (Box.step b4 0 (.bool s0)) 1 (.slice A0 n0 c0)) 2 (.slice D0 m0 e0)) 3 (.bool s1)) 4 (.slice A1 n1 c1)) 5 (.slice D1 m1 e1)) 6 (.bool false)) 7 (.bool false))
          generalize hX : ((((((((y7.setCell ⟨y5.heap.size, 0, none⟩ (.bool s0)).setCell ⟨y5.heap.size, 1, none⟩ (.slice A0 n0 c0)).setCell ⟨y5.heap.size, 2, none⟩ (.slice D0 m0 e0)).setCell ⟨y5.heap.size, 3, none⟩ (.bool s1)).setCell ⟨y5.heap.size, 4, none⟩ (.slice A1 n1 c1)).setCell ⟨y5.heap.size, 5, none⟩ (.slice D1 m1 e1)).setCell ⟨y5.heap.size, 6, none⟩ (.bool false)).setCell ⟨y5.heap.size, 7, none⟩ (.bool false)) = X8 at hg hB ⊢
          clear hX
          replace p0 := p0.kept b4 (by simp [notInt]) hg
          replace p1 := p1.kept b4 (by simp [notInt]) hg
          replace b9 := b9.other hg (by omega)
          replace b3 := b3.other hg (by omega)
          replace b4 := hB
          have hBs := below_only (Below.refl w.heap.size y7) hg (by omega) G0.size
          replace hT := hT.keep hBs hb
          replace G0 := only_below G0 hBs (Nat.le_refl _)
          replace hlt := Nat.lt_of_lt_of_le hlt hg.size
          clear hg hB hBs
          refine hK.out _ _ (b3.all3) (fun hHeld => ?_)
          clear hK K
          (try simp only [getElem_toArray, getElem_cons_succ, getElem_cons_zero, Act.put, setIfInBounds_toArray, set_cons_zero, set_cons_succ])
          refine wpAnyH_done (by kernel_rfl) ?_ _
          refine NoPanic.normal ?_
          go_wp2_with fail
          go_meet
          exact ⟨_, _, s1, A1, n1, c1, D1, m1, e1, rfl, half_pos q0 r, p0, p1, b4, b9, by omega, hT, G0, hlt⟩
      · have lb9_5 := b9.lt
        have lb3_5 := b3.lt
        go_simp
        obtain ⟨y5, hV, b4, hb9, szy5⟩ := boxes1 y4 #[.bool false, .slice none 0 0, .slice none 0 0, .bool false, .slice none 0 0, .slice none 0 0, .bool false, .bool false] 39
        rw [hV]
        clear hV
        replace p0 := p0.below hb9
        replace b9 := b9.below hb9
        replace b3 := b3.below hb9
        replace hT := hT.keep hb9 hlt
        replace hlt := Nat.lt_of_lt_of_le hlt hb9.size
        replace G0 := only_below G0 hb9 G0.size
        clear hb9
        refine hK.out _ _ (b3.all3) (fun hHeld => ?_)
        clear hK K
        (try simp only [getElem_toArray, getElem_cons_succ, getElem_cons_zero, Act.put, setIfInBounds_toArray, set_cons_zero, set_cons_succ])
        refine rd1 5 (by kernel_rfl) rfl (fun K hK => ?_)
        go_simp
        go_at_call 34
        refine (npart_v (d := 2) (1 + (r : Int)) (by omega) (by omega) (.inl rfl)).mono ?_
        rintro e y6 ⟨s2, A2, n2, c2, D2, m2, e2, rfl, p2, hb9⟩
        replace p0 := p0.below hb9
        replace b9 := b9.below hb9
        replace b3 := b3.below hb9
        replace b4 := b4.below hb9
        replace hT := hT.keep hb9 hlt
        replace hlt := Nat.lt_of_lt_of_le hlt hb9.size
        replace G0 := only_below G0 hb9 G0.size
        clear hb9
        go_wp2_with fail
        refine hK.out _ _ (b3.all3) (fun hHeld => ?_)
        clear hK K
        (try simp only [getElem_toArray, getElem_cons_succ, getElem_cons_zero, Act.put, setIfInBounds_toArray, set_cons_zero, set_cons_succ])
        refine rd1 6 (by kernel_rfl) rfl (fun K hK => ?_)
        go_simp
        go_at_call 32
        refine (nplus_v p0 p2 (by decide) (by decide)).mono ?_
        rintro e y7 ⟨s1, A1, n1, c1, D1, m1, e1, rfl, p1, hb9⟩
        replace p0 := p0.below hb9
        replace p2 := p2.below hb9
        replace b9 := b9.below hb9
        replace b3 := b3.below hb9
        replace b4 := b4.below hb9
        replace hT := hT.keep hb9 hlt
        replace hlt := Nat.lt_of_lt_of_le hlt hb9.size
        replace G0 := only_below G0 hb9 G0.size
        clear hb9
        clear p2
        go_wp2_with fail
        refine hK.out _ _ (b3.all3) (fun hHeld => ?_)
        clear hK K
        (try simp only [getElem_toArray, getElem_cons_succ, getElem_cons_zero, Act.put, setIfInBounds_toArray, set_cons_zero, set_cons_succ])
        refine tk 7 ?_ rfl (by kernel_rfl) (fun _ _ _ h => h) (by rfl) (by assumption) ?_ ?_
        rotate_left
        · (intro w hSw; (try dsimp only at hSw); go_simp; (try with_reducible rfl))
        (try simp only [getElem_toArray, getElem_cons_succ, getElem_cons_zero, Act.put, setIfInBounds_toArray, set_cons_zero, set_cons_succ])
        obtain ⟨cb40, yb40, cb41, yb41, cb42, yb42, cb43, yb43, cb44, yb44, cb45, yb45, cb46, yb46, cb47, yb47⟩ := b4.cf8
        refine rd1 9 (by kernel_rfl) rfl (fun K hK => ?_)
        go_simp
        clear cb40 yb40 cb41 yb41 cb42 yb42 cb43 yb43 cb44 yb44 cb45 yb45 cb46 yb46 cb47 yb47
        have hg : World.grownBy y7 ((((((((y7.setCell ⟨y4.heap.size, 0, none⟩ (.bool s0)).setCell ⟨y4.heap.size, 1, none⟩ (.slice A0 n0 c0)).setCell ⟨y4.heap.size, 2, none⟩ (.slice D0 m0 e0)).setCell ⟨y4.heap.size, 3, none⟩ (.bool s1)).setCell ⟨y4.heap.size, 4, none⟩ (.slice A1 n1 c1)).setCell ⟨y4.heap.size, 5, none⟩ (.slice D1 m1 e1)).setCell ⟨y4.heap.size, 6, none⟩ (.bool false)).setCell ⟨y4.heap.size, 7, none⟩ (.bool false)) (some (y4.heap.size)) := only_trans (only_trans (only_trans (only_trans (only_trans (only_trans (only_trans (only_setCell _ ⟨y4.heap.size, 0, none⟩ (.bool s0)) (only_setCell _ ⟨y4.heap.size, 1, none⟩ (.slice A0 n0 c0))) (only_setCell _ ⟨y4.heap.size, 2, none⟩ (.slice D0 m0 e0))) (only_setCell _ ⟨y4.heap.size, 3, none⟩ (.bool s1))) (only_setCell _ ⟨y4.heap.size, 4, none⟩ (.slice A1 n1 c1))) (only_setCell _ ⟨y4.heap.size, 5, none⟩ (.slice D1 m1 e1))) (only_setCell _ ⟨y4.heap.size, 6, none⟩ (.bool false))) (only_setCell _ ⟨y4.heap.size, 7, none⟩ (.bool false))
        have hB : Box ((((((((y7.setCell ⟨y4.heap.size, 0, none⟩ (.bool s0)).setCell ⟨y4.heap.size, 1, none⟩ (.slice A0 n0 c0)).setCell ⟨y4.heap.size, 2, none⟩ (.slice D0 m0 e0)).setCell ⟨y4.heap.size, 3, none⟩ (.bool s1)).setCell ⟨y4.heap.size, 4, none⟩ (.slice A1 n1 c1)).setCell ⟨y4.heap.size, 5, none⟩ (.slice D1 m1 e1)).setCell ⟨y4.heap.size, 6, none⟩ (.bool false)).setCell ⟨y4.heap.size, 7, none⟩ (.bool false)) (y4.heap.size) #[.bool s0, .slice A0 n0 c0, .slice D0 m0 e0, .bool s1, .slice A1 n1 c1, .slice D1 m1 e1, .bool false, .bool false] 39 := (Box.step (Box.step (Box.step (Box.step (Box.step (Box.step (Box.step (Box.step b4 0 (.bool s0)) 1 (.slice A0 n0 c0)) 2 (.slice D0 m0 e0)) 3 (.bool s1)) 4 (.slice A1 n1 c1)) 5 (.slice D1 m1 e1)) 6 (.bool false)) 7 (.bool false))
        generalize hX : ((((((((y7.setCell ⟨y4.heap.size, 0, none⟩ (.bool s0)).setCell ⟨y4.heap.size, 1, none⟩ (.slice A0 n0 c0)).setCell ⟨y4.heap.size, 2, none⟩ (.slice D0 m0 e0)).setCell ⟨y4.heap.size, 3, none⟩ (.bool s1)).setCell ⟨y4.heap.size, 4, none⟩ (.slice A1 n1 c1)).setCell ⟨y4.heap.size, 5, none⟩ (.slice D1 m1 e1)).setCell ⟨y4.heap.size, 6, none⟩ (.bool false)).setCell ⟨y4.heap.size, 7, none⟩ (.bool false)) = X8 at hg hB ⊢
        clear hX
        replace p0 := p0.kept b4 (by simp [notInt]) hg
        replace p1 := p1.kept b4 (by simp [notInt]) hg
        replace b9 := b9.other hg (by omega)
        replace b3 := b3.other hg (by omega)
        replace b4 := hB
        have hBs := below_only (Below.refl w.heap.size y7) hg (by omega) G0.size
        replace hT := hT.keep hBs hb
        replace G0 := only_below G0 hBs (Nat.le_refl _)
        replace hlt := Nat.lt_of_lt_of_le hlt hg.size
        clear hg hB hBs
        refine hK.out _ _ (b3.all3) (fun hHeld => ?_)
        clear hK K
        (try simp only [getElem_toArray, getElem_cons_succ, getElem_cons_zero, Act.put, setIfInBounds_toArray, set_cons_zero, set_cons_succ])
        refine wpAnyH_done (by kernel_rfl) ?_ _
        refine NoPanic.normal ?_
        go_wp2_with fail
        go_meet
        exact ⟨_, _, s1, A1, n1, c1, D1, m1, e1, rfl, half_pos q0 r, p0, p1, b4, b9, by omega, hT, G0, hlt⟩
    · have lb9_4 := b9.lt
      have lb3_4 := b3.lt
      go_simp
      obtain ⟨y4, hV, b4, hb9, szy4⟩ := boxes1 v3 #[.bool false, .slice none 0 0, .slice none 0 0, .bool false, .slice none 0 0, .slice none 0 0, .bool false, .bool false] 39
      rw [hV]
      clear hV
      replace p0 := p0.below hb9
      replace b9 := b9.below hb9
      replace b3 := b3.below hb9
      replace hT := hT.keep hb9 hlt
      replace hlt := Nat.lt_of_lt_of_le hlt hb9.size
      replace G0 := only_below G0 hb9 G0.size
      clear hb9
      refine hK.out _ _ (b3.all3) (fun hHeld => ?_)
      clear hK K
      (try simp only [getElem_toArray, getElem_cons_succ, getElem_cons_zero, Act.put, setIfInBounds_toArray, set_cons_zero, set_cons_succ])
      refine rd1 3 (by kernel_rfl) rfl (fun K hK => ?_)
      go_simp
      go_at_call 35
      refine (next_any 6 (by omega) (by omega) hT).mono ?_
      rintro e y5 ⟨r, rfl, hr, hT', hg⟩
      replace p0 := p0.tape hT hg
      replace b9 := b9.other hg (by omega)
      replace b3 := b3.other hg (by omega)
      replace b4 := b4.other hg (by omega)
      replace hlt := Nat.lt_of_lt_of_le hlt hg.size
      replace G0 := only_trans G0 hg
      clear hT
      have hT := hT'
      clear hT' hg
      have hw6 : IntKind.i64.wrap (1 + (r : Int)) = 1 + (r : Int) := IntWalk.i64_in _ (by omega)
      go_wp2_with fail
      refine hK.out _ _ (b3.all3) (fun hHeld => ?_)
      clear hK K
      (try simp only [getElem_toArray, getElem_cons_succ, getElem_cons_zero, Act.put, setIfInBounds_toArray, set_cons_zero, set_cons_succ])
      refine tk 4 ?_ rfl (by kernel_rfl) (fun _ _ _ h => h) (by rfl) (by assumption) ?_ ?_
      rotate_left
      · (intro w hSw; (try dsimp only at hSw); go_simp; (try with_reducible rfl))
      (try simp only [getElem_toArray, getElem_cons_succ, getElem_cons_zero, Act.put, setIfInBounds_toArray, set_cons_zero, set_cons_succ])
      refine rd1 5 (by kernel_rfl) rfl (fun K hK => ?_)
      go_simp
      go_at_call 34
      refine (npart_v (d := 2) (1 + (r : Int)) (by omega) (by omega) (.inl rfl)).mono ?_
      rintro e y6 ⟨s2, A2, n2, c2, D2, m2, e2, rfl, p2, hb9⟩
      replace p0 := p0.below hb9
      replace b9 := b9.below hb9
      replace b3 := b3.below hb9
      replace b4 := b4.below hb9
      replace hT := hT.keep hb9 hlt
      replace hlt := Nat.lt_of_lt_of_le hlt hb9.size
      replace G0 := only_below G0 hb9 G0.size
      clear hb9
      go_wp2_with fail
      refine hK.out _ _ (b3.all3) (fun hHeld => ?_)
      clear hK K
      (try simp only [getElem_toArray, getElem_cons_succ, getElem_cons_zero, Act.put, setIfInBounds_toArray, set_cons_zero, set_cons_succ])
      refine rd1 6 (by kernel_rfl) rfl (fun K hK => ?_)
      go_simp
      go_at_call 32
      refine (nplus_v p0 p2 (by decide) (by decide)).mono ?_
      rintro e y7 ⟨s1, A1, n1, c1, D1, m1, e1, rfl, p1, hb9⟩
      replace p0 := p0.below hb9
      replace p2 := p2.below hb9
      replace b9 := b9.below hb9
      replace b3 := b3.below hb9
      replace b4 := b4.below hb9
      replace hT := hT.keep hb9 hlt
      replace hlt := Nat.lt_of_lt_of_le hlt hb9.size
      replace G0 := only_below G0 hb9 G0.size
      clear hb9
      clear p2
      go_wp2_with fail
      refine hK.out _ _ (b3.all3) (fun hHeld => ?_)
      clear hK K
      (try simp only [getElem_toArray, getElem_cons_succ, getElem_cons_zero, Act.put, setIfInBounds_toArray, set_cons_zero, set_cons_succ])
      refine tk 7 ?_ rfl (by kernel_rfl) (fun _ _ _ h => h) (by rfl) (by assumption) ?_ ?_
      rotate_left
      · (intro w hSw; (try dsimp only at hSw); go_simp; (try with_reducible rfl))
      (try simp only [getElem_toArray, getElem_cons_succ, getElem_cons_zero, Act.put, setIfInBounds_toArray, set_cons_zero, set_cons_succ])
      obtain ⟨cb40, yb40, cb41, yb41, cb42, yb42, cb43, yb43, cb44, yb44, cb45, yb45, cb46, yb46, cb47, yb47⟩ := b4.cf8
      refine rd1 9 (by kernel_rfl) rfl (fun K hK => ?_)
      go_simp
      clear cb40 yb40 cb41 yb41 cb42 yb42 cb43 yb43 cb44 yb44 cb45 yb45 cb46 yb46 cb47 yb47
      have hg : World.grownBy y7 ((((((((y7.setCell ⟨v3.heap.size, 0, none⟩ (.bool s0)).setCell ⟨v3.heap.size, 1, none⟩ (.slice A0 n0 c0)).setCell ⟨v3.heap.size, 2, none⟩ (.slice D0 m0 e0)).setCell ⟨v3.heap.size, 3, none⟩ (.bool s1)).setCell ⟨v3.heap.size, 4, none⟩ (.slice A1 n1 c1)).setCell ⟨v3.heap.size, 5, none⟩ (.slice D1 m1 e1)).setCell ⟨v3.heap.size, 6, none⟩ (.bool false)).setCell ⟨v3.heap.size, 7, none⟩ (.bool false)) (some (v3.heap.size)) := only_trans (only_trans (only_trans (only_trans (only_trans (only_trans (only_trans (only_setCell _ ⟨v3.heap.size, 0, none⟩ (.bool s0)) (only_setCell _ ⟨v3.heap.size, 1, none⟩ (.slice A0 n0 c0))) (only_setCell _ ⟨v3.heap.size, 2, none⟩ (.slice D0 m0 e0))) (only_setCell _ ⟨v3.heap.size, 3, none⟩ (.bool s1))) (only_setCell _ ⟨v3.heap.size, 4, none⟩ (.slice A1 n1 c1))) (only_setCell _ ⟨v3.heap.size, 5, none⟩ (.slice D1 m1 e1))) (only_setCell _ ⟨v3.heap.size, 6, none⟩ (.bool false))) (only_setCell _ ⟨v3.heap.size, 7, none⟩ (.bool false))
      have hB : Box ((((((((y7.setCell ⟨v3.heap.size, 0, none⟩ (.bool s0)).setCell ⟨v3.heap.size, 1, none⟩ (.slice A0 n0 c0)).setCell ⟨v3.heap.size, 2, none⟩ (.slice D0 m0 e0)).setCell ⟨v3.heap.size, 3, none⟩ (.bool s1)).setCell ⟨v3.heap.size, 4, none⟩ (.slice A1 n1 c1)).setCell ⟨v3.heap.size, 5, none⟩ (.slice D1 m1 e1)).setCell ⟨v3.heap.size, 6, none⟩ (.bool false)).setCell ⟨v3.heap.size, 7, none⟩ (.bool false)) (v3.heap.size) #[.bool s0, .slice A0 n0 c0, .slice D0 m0 e0, .bool s1, .slice A1 n1 c1, .slice D1 m1 e1, .bool false, .bool false] 39 := (Box.step (Box.step (Box.step (Box.step (Box.step (Box.step (Box.step (Box.step b4 0 (.bool s0)) 1 (.slice A0 n0 c0)) 2 (.slice D0 m0 e0)) 3 (.bool s1)) 4 (.slice A1 n1 c1)) 5 (.slice D1 m1 e1)) 6 (.bool false)) 7 (.bool false))
      generalize hX : ((((((((y7.setCell ⟨v3.heap.size, 0, none⟩ (.bool s0)).setCell ⟨v3.heap.size, 1, none⟩ (.slice A0 n0 c0)).setCell ⟨v3.heap.size, 2, none⟩ (.slice D0 m0 e0)).setCell ⟨v3.heap.size, 3, none⟩ (.bool s1)).setCell ⟨v3.heap.size, 4, none⟩ (.slice A1 n1 c1)).setCell ⟨v3.heap.size, 5, none⟩ (.slice D1 m1 e1)).setCell ⟨v3.heap.size, 6, none⟩ (.bool false)).setCell ⟨v3.heap.size, 7, none⟩ (.bool false)) = X8 at hg hB ⊢
      clear hX
      replace p0 := p0.kept b4 (by simp [notInt]) hg
      replace p1 := p1.kept b4 (by simp [notInt]) hg
      replace b9 := b9.other hg (by omega)
      replace b3 := b3.other hg (by omega)
      replace b4 := hB
      have hBs := below_only (Below.refl w.heap.size y7) hg (by omega) G0.size
      replace hT := hT.keep hBs hb
      replace G0 := only_below G0 hBs (Nat.le_refl _)
      replace hlt := Nat.lt_of_lt_of_le hlt hg.size
      clear hg hB hBs
      refine hK.out _ _ (b3.all3) (fun hHeld => ?_)
      clear hK K
      (try simp only [getElem_toArray, getElem_cons_succ, getElem_cons_zero, Act.put, setIfInBounds_toArray, set_cons_zero, set_cons_succ])
      refine wpAnyH_done (by kernel_rfl) ?_ _
      refine NoPanic.normal ?_
      go_wp2_with fail
      go_meet
      exact ⟨_, _, s1, A1, n1, c1, D1, m1, e1, rfl, half_pos q0 r, p0, p1, b4, b9, by omega, hT, G0, hlt⟩
  case rest =>
    have lb9 := b9.lt
    clear p0 b3 b9 hT G0 hlt
    obtain ⟨g, q1, s1, A1, n1, c1, D1, m1, e1, rfl, hlt01, p0, p1, b4, b9, hlg, hT, G0, hlt⟩ := hcut
    have HLT := Lib.hid hlt01
    clear hlt01
    go_wp2_with fail
    refine (next_any 8 (by omega) (by omega) hT).mono ?_
    rintro e w300 ⟨r, rfl, hr, hT', hg⟩
    replace p0 := p0.tape hT hg
    replace p1 := p1.tape hT hg
    replace b4 := b4.other hg (by omega)
    replace b9 := b9.other hg (by omega)
    replace hlt := Nat.lt_of_lt_of_le hlt hg.size
    replace G0 := only_trans G0 hg
    clear hT
    have hT := hT'
    clear hT' hg
    rcases Decidable.em (r = 0) with h0 | h0
    · subst h0
      obtain ⟨cb40, yb40, cb41, yb41, cb42, yb42, cb43, yb43, cb44, yb44, cb45, yb45, cb46, yb46, cb47, yb47⟩ := b4.cf8
      go_upto_region 11 with fail
      clear cb40 yb40 cb41 yb41 cb42 yb42 cb43 yb43 cb44 yb44 cb45 yb45 cb46 yb46 cb47 yb47
      have hg : World.grownBy w300 ((((w300.setCell ⟨g, 0, none⟩ (.bool false)).setCell ⟨g, 1, none⟩ (.slice none 0 0)).setCell ⟨g, 2, none⟩ (.slice none 0 0)).setCell ⟨g, 6, none⟩ (.bool true)) (some g) := only_trans (only_trans (only_trans (only_setCell _ ⟨g, 0, none⟩ (.bool false)) (only_setCell _ ⟨g, 1, none⟩ (.slice none 0 0))) (only_setCell _ ⟨g, 2, none⟩ (.slice none 0 0))) (only_setCell _ ⟨g, 6, none⟩ (.bool true))
      have hB : Box ((((w300.setCell ⟨g, 0, none⟩ (.bool false)).setCell ⟨g, 1, none⟩ (.slice none 0 0)).setCell ⟨g, 2, none⟩ (.slice none 0 0)).setCell ⟨g, 6, none⟩ (.bool true)) g #[.bool false, .slice none 0 0, .slice none 0 0, .bool s1, .slice A1 n1 c1, .slice D1 m1 e1, .bool true, .bool false] 39 := ((((b4.step 0 (.bool false)).step 1 (.slice none 0 0)).step 2 (.slice none 0 0)).step 6 (.bool true))
      generalize hX : ((((w300.setCell ⟨g, 0, none⟩ (.bool false)).setCell ⟨g, 1, none⟩ (.slice none 0 0)).setCell ⟨g, 2, none⟩ (.slice none 0 0)).setCell ⟨g, 6, none⟩ (.bool true)) = X8 at hg hB ⊢
      clear hX
      replace p0 := p0.kept b4 (by simp [notInt]) hg
      replace p1 := p1.kept b4 (by simp [notInt]) hg
      replace b9 := b9.other hg (by omega)
      replace b4 := hB
      have hBs := below_only (Below.refl w.heap.size w300) hg (by omega) G0.size
      replace hT := hT.keep hBs hb
      replace G0 := only_below G0 hBs (Nat.le_refl _)
      replace hlt := Nat.lt_of_lt_of_le hlt hg.size
      clear hg hB hBs
      obtain ⟨cb40, cb41, cb42, cb43, cb44, cb45, cb46, cb47⟩ := b4.cells8
      obtain ⟨cb90, yb90, cb91, yb91, cb92, yb92, cb93, yb93, cb94, yb94, cb95, yb95, cb96, yb96, cb97, yb97⟩ := b9.cf8
      go_wp2_with fail
      clear cb40 cb41 cb42 cb43 cb44 cb45 cb46 cb47 cb90 yb90 cb91 yb91 cb92 yb92 cb93 yb93 cb94 yb94 cb95 yb95 cb96 yb96 cb97 yb97
      obtain ⟨cb90, yb90, cb91, yb91, cb92, yb92, cb93, yb93, cb94, yb94, cb95, yb95, cb96, yb96, cb97, yb97⟩ := b9.cf8
      clear cb90 yb90 cb91 yb91 cb92 yb92 cb93 yb93 cb94 yb94 cb95 yb95 cb96 yb96 cb97 yb97
      have hg : World.grownBy X8 ((((((((X8.setCell ⟨w.heap.size, 0, none⟩ (.bool false)).setCell ⟨w.heap.size, 1, none⟩ (.slice none 0 0)).setCell ⟨w.heap.size, 2, none⟩ (.slice none 0 0)).setCell ⟨w.heap.size, 3, none⟩ (.bool s1)).setCell ⟨w.heap.size, 4, none⟩ (.slice A1 n1 c1)).setCell ⟨w.heap.size, 5, none⟩ (.slice D1 m1 e1)).setCell ⟨w.heap.size, 6, none⟩ (.bool true)).setCell ⟨w.heap.size, 7, none⟩ (.bool false)) (some (w.heap.size)) := only_trans (only_trans (only_trans (only_trans (only_trans (only_trans (only_trans (only_setCell _ ⟨w.heap.size, 0, none⟩ (.bool false)) (only_setCell _ ⟨w.heap.size, 1, none⟩ (.slice none 0 0))) (only_setCell _ ⟨w.heap.size, 2, none⟩ (.slice none 0 0))) (only_setCell _ ⟨w.heap.size, 3, none⟩ (.bool s1))) (only_setCell _ ⟨w.heap.size, 4, none⟩ (.slice A1 n1 c1))) (only_setCell _ ⟨w.heap.size, 5, none⟩ (.slice D1 m1 e1))) (only_setCell _ ⟨w.heap.size, 6, none⟩ (.bool true))) (only_setCell _ ⟨w.heap.size, 7, none⟩ (.bool false))
      have hB : Box ((((((((X8.setCell ⟨w.heap.size, 0, none⟩ (.bool false)).setCell ⟨w.heap.size, 1, none⟩ (.slice none 0 0)).setCell ⟨w.heap.size, 2, none⟩ (.slice none 0 0)).setCell ⟨w.heap.size, 3, none⟩ (.bool s1)).setCell ⟨w.heap.size, 4, none⟩ (.slice A1 n1 c1)).setCell ⟨w.heap.size, 5, none⟩ (.slice D1 m1 e1)).setCell ⟨w.heap.size, 6, none⟩ (.bool true)).setCell ⟨w.heap.size, 7, none⟩ (.bool false)) (w.heap.size) #[.bool false, .slice none 0 0, .slice none 0 0, .bool s1, .slice A1 n1 c1, .slice D1 m1 e1, .bool true, .bool false] 39 := (Box.step (Box.step (Box.step (Box.step (Box.step (Box.step (Box.step (Box.step b9 0 (.bool false)) 1 (.slice none 0 0)) 2 (.slice none 0 0)) 3 (.bool s1)) 4 (.slice A1 n1 c1)) 5 (.slice D1 m1 e1)) 6 (.bool true)) 7 (.bool false))
      generalize hX : ((((((((X8.setCell ⟨w.heap.size, 0, none⟩ (.bool false)).setCell ⟨w.heap.size, 1, none⟩ (.slice none 0 0)).setCell ⟨w.heap.size, 2, none⟩ (.slice none 0 0)).setCell ⟨w.heap.size, 3, none⟩ (.bool s1)).setCell ⟨w.heap.size, 4, none⟩ (.slice A1 n1 c1)).setCell ⟨w.heap.size, 5, none⟩ (.slice D1 m1 e1)).setCell ⟨w.heap.size, 6, none⟩ (.bool true)).setCell ⟨w.heap.size, 7, none⟩ (.bool false)) = X301 at hg hB ⊢
      clear hX
      replace p0 := p0.kept b9 (by simp [notInt]) hg
      replace p1 := p1.kept b9 (by simp [notInt]) hg
      replace b4 := b4.other hg (by omega)
      replace b9 := hB
      have hBs := below_only (Below.refl w.heap.size X8) hg (by omega) G0.size
      replace hT := hT.keep hBs hb
      replace G0 := only_below G0 hBs (Nat.le_refl _)
      replace hlt := Nat.lt_of_lt_of_le hlt hg.size
      clear hg hB hBs
      refine bodyPost_ret (ret_s6 rfl rfl b9) rfl ?_
      exact ⟨⟨none, some q1⟩, _, _, _, _, _, _, _, _, _, _, _, _, _, _, _, _, rfl, fun a c h1 h2 => (by cases h1), .inr ⟨rfl, rfl⟩, .inl ⟨rfl, _, rfl, p1⟩, hT, G0⟩
    · have ek0 : (((r : Nat) : Int) == 0) = false := by rw [beq_eq_false_iff_ne]; omega
      rcases Decidable.em (r = 1) with h1 | h1
      · subst h1
        obtain ⟨cb40, yb40, cb41, yb41, cb42, yb42, cb43, yb43, cb44, yb44, cb45, yb45, cb46, yb46, cb47, yb47⟩ := b4.cf8
        go_upto_region 11 with fail
        clear cb40 yb40 cb41 yb41 cb42 yb42 cb43 yb43 cb44 yb44 cb45 yb45 cb46 yb46 cb47 yb47
        have hg : World.grownBy w300 ((((w300.setCell ⟨g, 3, none⟩ (.bool false)).setCell ⟨g, 4, none⟩ (.slice none 0 0)).setCell ⟨g, 5, none⟩ (.slice none 0 0)).setCell ⟨g, 7, none⟩ (.bool true)) (some g) := only_trans (only_trans (only_trans (only_setCell _ ⟨g, 3, none⟩ (.bool false)) (only_setCell _ ⟨g, 4, none⟩ (.slice none 0 0))) (only_setCell _ ⟨g, 5, none⟩ (.slice none 0 0))) (only_setCell _ ⟨g, 7, none⟩ (.bool true))
        have hB : Box ((((w300.setCell ⟨g, 3, none⟩ (.bool false)).setCell ⟨g, 4, none⟩ (.slice none 0 0)).setCell ⟨g, 5, none⟩ (.slice none 0 0)).setCell ⟨g, 7, none⟩ (.bool true)) g #[.bool s0, .slice A0 n0 c0, .slice D0 m0 e0, .bool false, .slice none 0 0, .slice none 0 0, .bool false, .bool true] 39 := ((((b4.step 3 (.bool false)).step 4 (.slice none 0 0)).step 5 (.slice none 0 0)).step 7 (.bool true))
        generalize hX : ((((w300.setCell ⟨g, 3, none⟩ (.bool false)).setCell ⟨g, 4, none⟩ (.slice none 0 0)).setCell ⟨g, 5, none⟩ (.slice none 0 0)).setCell ⟨g, 7, none⟩ (.bool true)) = X8 at hg hB ⊢
        clear hX
        replace p0 := p0.kept b4 (by simp [notInt]) hg
        replace p1 := p1.kept b4 (by simp [notInt]) hg
        replace b9 := b9.other hg (by omega)
        replace b4 := hB
        have hBs := below_only (Below.refl w.heap.size w300) hg (by omega) G0.size
        replace hT := hT.keep hBs hb
        replace G0 := only_below G0 hBs (Nat.le_refl _)
        replace hlt := Nat.lt_of_lt_of_le hlt hg.size
        clear hg hB hBs
        obtain ⟨cb40, cb41, cb42, cb43, cb44, cb45, cb46, cb47⟩ := b4.cells8
        obtain ⟨cb90, yb90, cb91, yb91, cb92, yb92, cb93, yb93, cb94, yb94, cb95, yb95, cb96, yb96, cb97, yb97⟩ := b9.cf8
        go_wp2_with fail
        clear cb40 cb41 cb42 cb43 cb44 cb45 cb46 cb47 cb90 yb90 cb91 yb91 cb92 yb92 cb93 yb93 cb94 yb94 cb95 yb95 cb96 yb96 cb97 yb97
        obtain ⟨cb90, yb90, cb91, yb91, cb92, yb92, cb93, yb93, cb94, yb94, cb95, yb95, cb96, yb96, cb97, yb97⟩ := b9.cf8
        clear cb90 yb90 cb91 yb91 cb92 yb92 cb93 yb93 cb94 yb94 cb95 yb95 cb96 yb96 cb97 yb97
        have hg : World.grownBy X8 ((((((((X8.setCell ⟨w.heap.size, 0, none⟩ (.bool s0)).setCell ⟨w.heap.size, 1, none⟩ (.slice A0 n0 c0)).setCell ⟨w.heap.size, 2, none⟩ (.slice D0 m0 e0)).setCell ⟨w.heap.size, 3, none⟩ (.bool false)).setCell ⟨w.heap.size, 4, none⟩ (.slice none 0 0)).setCell ⟨w.heap.size, 5, none⟩ (.slice none 0 0)).setCell ⟨w.heap.size, 6, none⟩ (.bool false)).setCell ⟨w.heap.size, 7, none⟩ (.bool true)) (some (w.heap.size)) := only_trans (only_trans (only_trans (only_trans (only_trans (only_trans (only_trans (only_setCell _ ⟨w.heap.size, 0, none⟩ (.bool s0)) (only_setCell _ ⟨w.heap.size, 1, none⟩ (.slice A0 n0 c0))) (only_setCell _ ⟨w.heap.size, 2, none⟩ (.slice D0 m0 e0))) (only_setCell _ ⟨w.heap.size, 3, none⟩ (.bool false))) (only_setCell _ ⟨w.heap.size, 4, none⟩ (.slice none 0 0))) (only_setCell _ ⟨w.heap.size, 5, none⟩ (.slice none 0 0))) (only_setCell _ ⟨w.heap.size, 6, none⟩ (.bool false))) (only_setCell _ ⟨w.heap.size, 7, none⟩ (.bool true))
        have hB : Box ((((((((X8.setCell ⟨w.heap.size, 0, none⟩ (.bool s0)).setCell ⟨w.heap.size, 1, none⟩ (.slice A0 n0 c0)).setCell ⟨w.heap.size, 2, none⟩ (.slice D0 m0 e0)).setCell ⟨w.heap.size, 3, none⟩ (.bool false)).setCell ⟨w.heap.size, 4, none⟩ (.slice none 0 0)).setCell ⟨w.heap.size, 5, none⟩ (.slice none 0 0)).setCell ⟨w.heap.size, 6, none⟩ (.bool false)).setCell ⟨w.heap.size, 7, none⟩ (.bool true)) (w.heap.size) #[.bool s0, .slice A0 n0 c0, .slice D0 m0 e0, .bool false, .slice none 0 0, .slice none 0 0, .bool false, .bool true] 39 := (Box.step (Box.step (Box.step (Box.step (Box.step (Box.step (Box.step (Box.step b9 0 (.bool s0)) 1 (.slice A0 n0 c0)) 2 (.slice D0 m0 e0)) 3 (.bool false)) 4 (.slice none 0 0)) 5 (.slice none 0 0)) 6 (.bool false)) 7 (.bool true))
        generalize hX : ((((((((X8.setCell ⟨w.heap.size, 0, none⟩ (.bool s0)).setCell ⟨w.heap.size, 1, none⟩ (.slice A0 n0 c0)).setCell ⟨w.heap.size, 2, none⟩ (.slice D0 m0 e0)).setCell ⟨w.heap.size, 3, none⟩ (.bool false)).setCell ⟨w.heap.size, 4, none⟩ (.slice none 0 0)).setCell ⟨w.heap.size, 5, none⟩ (.slice none 0 0)).setCell ⟨w.heap.size, 6, none⟩ (.bool false)).setCell ⟨w.heap.size, 7, none⟩ (.bool true)) = X301 at hg hB ⊢
        clear hX
        replace p0 := p0.kept b9 (by simp [notInt]) hg
        replace p1 := p1.kept b9 (by simp [notInt]) hg
        replace b4 := b4.other hg (by omega)
        replace b9 := hB
        have hBs := below_only (Below.refl w.heap.size X8) hg (by omega) G0.size
        replace hT := hT.keep hBs hb
        replace G0 := only_below G0 hBs (Nat.le_refl _)
        replace hlt := Nat.lt_of_lt_of_le hlt hg.size
        clear hg hB hBs
        refine bodyPost_ret (ret_s6 rfl rfl b9) rfl ?_
        exact ⟨⟨some q0, none⟩, _, _, _, _, _, _, _, _, _, _, _, _, _, _, _, _, rfl, fun a c h1 h2 => (by cases h2), .inl ⟨rfl, _, rfl, p0.more (by decide)⟩, .inr ⟨rfl, rfl⟩, hT, G0⟩
      · have ek1 : (((r : Nat) : Int) == 1) = false := by rw [beq_eq_false_iff_ne]; omega
        rcases Decidable.em (r = 2) with h2 | h2
        · subst h2
          go_wp2_with fail
          refine (next_any 4 (by omega) (by omega) hT).mono ?_
          rintro e w301 ⟨r4, rfl, hr4, hT', hg⟩
          replace p0 := p0.tape hT hg
          replace p1 := p1.tape hT hg
          replace b4 := b4.other hg (by omega)
          replace b9 := b9.other hg (by omega)
          replace hlt := Nat.lt_of_lt_of_le hlt hg.size
          replace G0 := only_trans G0 hg
          clear hT
          have hT := hT'
          clear hT' hg
          rcases Decidable.em (r4 = 0) with h4 | h4
          · subst h4
            go_wp2_with fail
            refine (full_v _).mono ?_
            rintro e w302 ⟨rfl, hb⟩
            replace p0 := p0.below hb
            replace p1 := p1.below hb
            replace b4 := b4.below hb
            replace b9 := b9.below hb
            replace hT := hT.keep hb hlt
            replace hlt := Nat.lt_of_lt_of_le hlt hb.size
            replace G0 := only_below G0 hb G0.size
            clear hb
            obtain ⟨cb90, yb90, cb91, yb91, cb92, yb92, cb93, yb93, cb94, yb94, cb95, yb95, cb96, yb96, cb97, yb97⟩ := b9.cf8
            go_wp2_with fail
            clear cb90 yb90 cb91 yb91 cb92 yb92 cb93 yb93 cb94 yb94 cb95 yb95 cb96 yb96 cb97 yb97
            obtain ⟨cb90, yb90, cb91, yb91, cb92, yb92, cb93, yb93, cb94, yb94, cb95, yb95, cb96, yb96, cb97, yb97⟩ := b9.cf8
            clear cb90 yb90 cb91 yb91 cb92 yb92 cb93 yb93 cb94 yb94 cb95 yb95 cb96 yb96 cb97 yb97
            have hg : World.grownBy w302 ((((((((w302.setCell ⟨w.heap.size, 0, none⟩ (.bool false)).setCell ⟨w.heap.size, 1, none⟩ (.slice none 0 0)).setCell ⟨w.heap.size, 2, none⟩ (.slice none 0 0)).setCell ⟨w.heap.size, 3, none⟩ (.bool false)).setCell ⟨w.heap.size, 4, none⟩ (.slice none 0 0)).setCell ⟨w.heap.size, 5, none⟩ (.slice none 0 0)).setCell ⟨w.heap.size, 6, none⟩ (.bool true)).setCell ⟨w.heap.size, 7, none⟩ (.bool true)) (some (w.heap.size)) := only_trans (only_trans (only_trans (only_trans (only_trans (only_trans (only_trans (only_setCell _ ⟨w.heap.size, 0, none⟩ (.bool false)) (only_setCell _ ⟨w.heap.size, 1, none⟩ (.slice none 0 0))) (only_setCell _ ⟨w.heap.size, 2, none⟩ (.slice none 0 0))) (only_setCell _ ⟨w.heap.size, 3, none⟩ (.bool false))) (only_setCell _ ⟨w.heap.size, 4, none⟩ (.slice none 0 0))) (only_setCell _ ⟨w.heap.size, 5, none⟩ (.slice none 0 0))) (only_setCell _ ⟨w.heap.size, 6, none⟩ (.bool true))) (only_setCell _ ⟨w.heap.size, 7, none⟩ (.bool true))
            have hB : Box ((((((((w302.setCell ⟨w.heap.size, 0, none⟩ (.bool false)).setCell ⟨w.heap.size, 1, none⟩ (.slice none 0 0)).setCell ⟨w.heap.size, 2, none⟩ (.slice none 0 0)).setCell ⟨w.heap.size, 3, none⟩ (.bool false)).setCell ⟨w.heap.size, 4, none⟩ (.slice none 0 0)).setCell ⟨w.heap.size, 5, none⟩ (.slice none 0 0)).setCell ⟨w.heap.size, 6, none⟩ (.bool true)).setCell ⟨w.heap.size, 7, none⟩ (.bool true)) (w.heap.size) #[.bool false, .slice none 0 0, .slice none 0 0, .bool false, .slice none 0 0, .slice none 0 0, .bool true, .bool true] 39 := (Box.step (Box.step (Box.step (Box.step (Box.step (Box.step (Box.step (Box.step b9 0 (.bool false)) 1 (.slice none 0 0)) 2 (.slice none 0 0)) 3 (.bool false)) 4 (.slice none 0 0)) 5 (.slice none 0 0)) 6 (.bool true)) 7 (.bool true))
            generalize hX : ((((((((w302.setCell ⟨w.heap.size, 0, none⟩ (.bool false)).setCell ⟨w.heap.size, 1, none⟩ (.slice none 0 0)).setCell ⟨w.heap.size, 2, none⟩ (.slice none 0 0)).setCell ⟨w.heap.size, 3, none⟩ (.bool false)).setCell ⟨w.heap.size, 4, none⟩ (.slice none 0 0)).setCell ⟨w.heap.size, 5, none⟩ (.slice none 0 0)).setCell ⟨w.heap.size, 6, none⟩ (.bool true)).setCell ⟨w.heap.size, 7, none⟩ (.bool true)) = X303 at hg hB ⊢
            clear hX
            replace p0 := p0.kept b9 (by simp [notInt]) hg
            replace p1 := p1.kept b9 (by simp [notInt]) hg
            replace b4 := b4.other hg (by omega)
            replace b9 := hB
            have hBs := below_only (Below.refl w.heap.size w302) hg (by omega) G0.size
            replace hT := hT.keep hBs hb
            replace G0 := only_below G0 hBs (Nat.le_refl _)
            replace hlt := Nat.lt_of_lt_of_le hlt hg.size
            clear hg hB hBs
            refine bodyPost_ret (ret_s6 rfl rfl b9) rfl ?_
            exact ⟨⟨none, none⟩, _, _, _, _, _, _, _, _, _, _, _, _, _, _, _, _, rfl, fun a c h1 h2 => (by cases h1), .inr ⟨rfl, rfl⟩, .inr ⟨rfl, rfl⟩, hT, G0⟩
          · have ek4 : (((r4 : Nat) : Int) == 0) = false := by rw [beq_eq_false_iff_ne]; omega
            obtain ⟨cb40, cb41, cb42, cb43, cb44, cb45, cb46, cb47⟩ := b4.cells8
            go_upto_region 11 with fail
            clear cb40 cb41 cb42 cb43 cb44 cb45 cb46 cb47
            obtain ⟨cb40, cb41, cb42, cb43, cb44, cb45, cb46, cb47⟩ := b4.cells8
            obtain ⟨cb90, yb90, cb91, yb91, cb92, yb92, cb93, yb93, cb94, yb94, cb95, yb95, cb96, yb96, cb97, yb97⟩ := b9.cf8
            go_wp2_with fail
            clear cb40 cb41 cb42 cb43 cb44 cb45 cb46 cb47 cb90 yb90 cb91 yb91 cb92 yb92 cb93 yb93 cb94 yb94 cb95 yb95 cb96 yb96 cb97 yb97
            obtain ⟨cb90, yb90, cb91, yb91, cb92, yb92, cb93, yb93, cb94, yb94, cb95, yb95, cb96, yb96, cb97, yb97⟩ := b9.cf8
            clear cb90 yb90 cb91 yb91 cb92 yb92 cb93 yb93 cb94 yb94 cb95 yb95 cb96 yb96 cb97 yb97
            have hg : World.grownBy w301 ((((((((w301.setCell ⟨w.heap.size, 0, none⟩ (.bool s0)).setCell ⟨w.heap.size, 1, none⟩ (.slice A0 n0 c0)).setCell ⟨w.heap.size, 2, none⟩ (.slice D0 m0 e0)).setCell ⟨w.heap.size, 3, none⟩ (.bool s1)).setCell ⟨w.heap.size, 4, none⟩ (.slice A1 n1 c1)).setCell ⟨w.heap.size, 5, none⟩ (.slice D1 m1 e1)).setCell ⟨w.heap.size, 6, none⟩ (.bool false)).setCell ⟨w.heap.size, 7, none⟩ (.bool false)) (some (w.heap.size)) := only_trans (only_trans (only_trans (only_trans (only_trans (only_trans (only_trans (only_setCell _ ⟨w.heap.size, 0, none⟩ (.bool s0)) (only_setCell _ ⟨w.heap.size, 1, none⟩ (.slice A0 n0 c0))) (only_setCell _ ⟨w.heap.size, 2, none⟩ (.slice D0 m0 e0))) (only_setCell _ ⟨w.heap.size, 3, none⟩ (.bool s1))) (only_setCell _ ⟨w.heap.size, 4, none⟩ (.slice A1 n1 c1))) (only_setCell _ ⟨w.heap.size, 5, none⟩ (.slice D1 m1 e1))) (only_setCell _ ⟨w.heap.size, 6, none⟩ (.bool false))) (only_setCell _ ⟨w.heap.size, 7, none⟩ (.bool false))
            have hB : Box ((((((((w301.setCell ⟨w.heap.size, 0, none⟩ (.bool s0)).setCell ⟨w.heap.size, 1, none⟩ (.slice A0 n0 c0)).setCell ⟨w.heap.size, 2, none⟩ (.slice D0 m0 e0)).setCell ⟨w.heap.size, 3, none⟩ (.bool s1)).setCell ⟨w.heap.size, 4, none⟩ (.slice A1 n1 c1)).setCell ⟨w.heap.size, 5, none⟩ (.slice D1 m1 e1)).setCell ⟨w.heap.size, 6, none⟩ (.bool false)).setCell ⟨w.heap.size, 7, none⟩ (.bool false)) (w.heap.size) #[.bool s0, .slice A0 n0 c0, .slice D0 m0 e0, .bool s1, .slice A1 n1 c1, .slice D1 m1 e1, .bool false, .bool false] 39 := (Box.step (Box.step (Box.step (Box.step (Box.step (Box.step (Box.step (Box.step b9 0 (.bool s0)) 1 (.slice A0 n0 c0)) 2 (.slice D0 m0 e0)) 3 (.bool s1)) 4 (.slice A1 n1 c1)) 5 (.slice D1 m1 e1)) 6 (.bool false)) 7 (.bool false))
            generalize hX : ((((((((w301.setCell ⟨w.heap.size, 0, none⟩ (.bool s0)).setCell ⟨w.heap.size, 1, none⟩ (.slice A0 n0 c0)).setCell ⟨w.heap.size, 2, none⟩ (.slice D0 m0 e0)).setCell ⟨w.heap.size, 3, none⟩ (.bool s1)).setCell ⟨w.heap.size, 4, none⟩ (.slice A1 n1 c1)).setCell ⟨w.heap.size, 5, none⟩ (.slice D1 m1 e1)).setCell ⟨w.heap.size, 6, none⟩ (.bool false)).setCell ⟨w.heap.size, 7, none⟩ (.bool false)) = X302 at hg hB ⊢
            clear hX
            replace p0 := p0.kept b9 (by simp [notInt]) hg
            replace p1 := p1.kept b9 (by simp [notInt]) hg
            replace b4 := b4.other hg (by omega)
            replace b9 := hB
            have hBs := below_only (Below.refl w.heap.size w301) hg (by omega) G0.size
            replace hT := hT.keep hBs hb
            replace G0 := only_below G0 hBs (Nat.le_refl _)
            replace hlt := Nat.lt_of_lt_of_le hlt hg.size
            clear hg hB hBs
            refine bodyPost_ret (ret_s6 rfl rfl b9) rfl ?_
            exact ⟨⟨some q0, some q1⟩, _, _, _, _, _, _, _, _, _, _, _, _, _, _, _, _, rfl, fun a c h1 h2 => (by injection h1 with h1; injection h2 with h2; subst h1 h2; exact HLT.out), .inl ⟨rfl, _, rfl, p0.more (by decide)⟩, .inl ⟨rfl, _, rfl, p1⟩, hT, G0⟩
        · have ek2 : (((r : Nat) : Int) == 2) = false := by rw [beq_eq_false_iff_ne]; omega
          obtain ⟨cb40, cb41, cb42, cb43, cb44, cb45, cb46, cb47⟩ := b4.cells8
          go_upto_region 11 with fail
          clear cb40 cb41 cb42 cb43 cb44 cb45 cb46 cb47
          obtain ⟨cb40, cb41, cb42, cb43, cb44, cb45, cb46, cb47⟩ := b4.cells8
          obtain ⟨cb90, yb90, cb91, yb91, cb92, yb92, cb93, yb93, cb94, yb94, cb95, yb95, cb96, yb96, cb97, yb97⟩ := b9.cf8
          go_wp2_with fail
          clear cb40 cb41 cb42 cb43 cb44 cb45 cb46 cb47 cb90 yb90 cb91 yb91 cb92 yb92 cb93 yb93 cb94 yb94 cb95 yb95 cb96 yb96 cb97 yb97
          obtain ⟨cb90, yb90, cb91, yb91, cb92, yb92, cb93, yb93, cb94, yb94, cb95, yb95, cb96, yb96, cb97, yb97⟩ := b9.cf8
          clear cb90 yb90 cb91 yb91 cb92 yb92 cb93 yb93 cb94 yb94 cb95 yb95 cb96 yb96 cb97 yb97
          have hg : World.grownBy w300 ((((((((w300.setCell ⟨w.heap.size, 0, none⟩ (.bool s0)).setCell ⟨w.heap.size, 1, none⟩ (.slice A0 n0 c0)).setCell ⟨w.heap.size, 2, none⟩ (.slice D0 m0 e0)).setCell ⟨w.heap.size, 3, none⟩ (.bool s1)).setCell ⟨w.heap.size, 4, none⟩ (.slice A1 n1 c1)).setCell ⟨w.heap.size, 5, none⟩ (.slice D1 m1 e1)).setCell ⟨w.heap.size, 6, none⟩ (.bool false)).setCell ⟨w.heap.size, 7, none⟩ (.bool false)) (some (w.heap.size)) := only_trans (only_trans (only_trans (only_trans (only_trans (only_trans (only_trans (only_setCell _ ⟨w.heap.size, 0, none⟩ (.bool s0)) (only_setCell _ ⟨w.heap.size, 1, none⟩ (.slice A0 n0 c0))) (only_setCell _ ⟨w.heap.size, 2, none⟩ (.slice D0 m0 e0))) (only_setCell _ ⟨w.heap.size, 3, none⟩ (.bool s1))) (only_setCell _ ⟨w.heap.size, 4, none⟩ (.slice A1 n1 c1))) (only_setCell _ ⟨w.heap.size, 5, none⟩ (.slice D1 m1 e1))) (only_setCell _ ⟨w.heap.size, 6, none⟩ (.bool false))) (only_setCell _ ⟨w.heap.size, 7, none⟩ (.bool false))
          have hB : Box ((((((((w300.setCell ⟨w.heap.size, 0, none⟩ (.bool s0)).setCell ⟨w.heap.size, 1, none⟩ (.slice A0 n0 c0)).setCell ⟨w.heap.size, 2, none⟩ (.slice D0 m0 e0)).setCell ⟨w.heap.size, 3, none⟩ (.bool s1)).setCell ⟨w.heap.size, 4, none⟩ (.slice A1 n1 c1)).setCell ⟨w.heap.size, 5, none⟩ (.slice D1 m1 e1)).setCell ⟨w.heap.size, 6, none⟩ (.bool false)).setCell ⟨w.heap.size, 7, none⟩ (.bool false)) (w.heap.size) #[.bool s0, .slice A0 n0 c0, .slice D0 m0 e0, .bool s1, .slice A1 n1 c1, .slice D1 m1 e1, .bool false, .bool false] 39 := (Box.step (Box.step (Box.step (Box.step (Box.step (Box.step (Box.step (Box.step b9 0 (.bool s0)) 1 (.slice A0 n0 c0)) 2 (.slice D0 m0 e0)) 3 (.bool s1)) 4 (.slice A1 n1 c1)) 5 (.slice D1 m1 e1)) 6 (.bool false)) 7 (.bool false))
          generalize hX : ((((((((w300.setCell ⟨w.heap.size, 0, none⟩ (.bool s0)).setCell ⟨w.heap.size, 1, none⟩ (.slice A0 n0 c0)).setCell ⟨w.heap.size, 2, none⟩ (.slice D0 m0 e0)).setCell ⟨w.heap.size, 3, none⟩ (.bool s1)).setCell ⟨w.heap.size, 4, none⟩ (.slice A1 n1 c1)).setCell ⟨w.heap.size, 5, none⟩ (.slice D1 m1 e1)).setCell ⟨w.heap.size, 6, none⟩ (.bool false)).setCell ⟨w.heap.size, 7, none⟩ (.bool false)) = X301 at hg hB ⊢
          clear hX
          replace p0 := p0.kept b9 (by simp [notInt]) hg
          replace p1 := p1.kept b9 (by simp [notInt]) hg
          replace b4 := b4.other hg (by omega)
          replace b9 := hB
          have hBs := below_only (Below.refl w.heap.size w300) hg (by omega) G0.size
          replace hT := hT.keep hBs hb
          replace G0 := only_below G0 hBs (Nat.le_refl _)
          replace hlt := Nat.lt_of_lt_of_le hlt hg.size
          clear hg hB hBs
          refine bodyPost_ret (ret_s6 rfl rfl b9) rfl ?_
          exact ⟨⟨some q0, some q1⟩, _, _, _, _, _, _, _, _, _, _, _, _, _, _, _, _, rfl, fun a c h1 h2 => (by injection h1 with h1; injection h2 with h2; subst h1 h2; exact HLT.out), .inl ⟨rfl, _, rfl, p0.more (by decide)⟩, .inl ⟨rfl, _, rfl, p1⟩, hT, G0⟩
end
end Go.Proofs.YtpgkkkodniiilaaGreatDoor
