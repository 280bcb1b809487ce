/-
  SpE, SpF, SpG in one text.
-/
import Derived.Test.YtpgkkkodniiilaaGreatDoorWSq
import Derived.Test.YtpgkkkodniiilaaGreatDoorWSA
import Derived.IntWalk
import Derived.Deep.Cut
import Derived.Deep.CutBlock
namespace Go.Proofs.YtpgkkkodniiilaaGreatDoor
open List (getElem_toArray getElem_cons_succ getElem_cons_zero setIfInBounds_toArray set_cons_zero set_cons_succ)
open Go.RowKit
section
variable {f0 h0 f1 h1 f2 h2 f3 h3 f4 h4 f5 h5 f6 h6 f7 h7 f8 h8 f9 h9 f10 h10 f11 h11 : Bool} {A0 A1 A2 A3 A5 A6 A7 A8 A9 D0 D1 D2 D3 D7 : Option Addr} {n0 n1 n2 n3 n5 n7 c0 c1 c2 c3 c5 c6 c7 m0 m1 m2 m3 m7 e0 e1 e2 e3 e4 e5 e6 e7 e8 e9 : Nat} {s0 s1 s2 s3 s4 s7 : Bool} {q0 q1 q2 q3 q4 q5 q6 q7 : Rat} {z0 z1 z2 z3 z4 z5 z6 z7 z8 z9 z10 z11 : Int} {L L0 L1 x y : Nat} {k : Int} {b : Bool} {w : World}
variable {o0 o1 o2 o3 : Option Rat} {l l' : List Sp}
theorem EnS.head {A : Option Addr} {n c : Nat} {l : List (Rat × Int)} {s : Rat × Int} (h : EnS w L (.slice A n c) (s :: l)) : ∃ g o, ∃ (s0 : Bool), ∃ (A0 : Option Addr), ∃ (n0 : Nat), ∃ (c0 : Nat), ∃ (D0 : Option Addr), ∃ (m0 : Nat), ∃ (e0 : Nat), A = some ⟨g, o, none⟩ ∧ CellF w ⟨g, o, none⟩ (.bool s0) ∧ CellF w ⟨g, o + 1, none⟩ (.slice A0 n0 c0) ∧ CellF w ⟨g, o + 2, none⟩ (.slice D0 m0 e0) ∧ CellF w ⟨g, o + 3, none⟩ (.int .i64 s.2) ∧ NQ w s0 (.slice A0 n0 c0) (.slice D0 m0 e0) s.1 L := by
  obtain ⟨g, o, s0, A0, n0, c0, D0, m0, e0, h1, h2, h3, h4, h5, h6⟩ := h.elem (i := 0) rfl
  simp only [Nat.zero_mul, Nat.add_zero] at h2 h3 h4 h5
  exact ⟨g, o, s0, A0, n0, c0, D0, m0, e0, h1, h2, h3, h4, h5, h6⟩
set_option maxRecDepth 100000 in
set_option maxHeartbeats 4000000 in
theorem ecmp_v (h : NQ w s0 (.slice A0 n0 c0) (.slice D0 m0 e0) q0 L) (j : NQ w s1 (.slice A1 n1 c1) (.slice D1 m1 e1) q1 L) (hL : L ≤ 100000) (hk : rsg (q0 - q1) = k) :
    Calls Tryz.prog 102 #[.agg #[.bool s0, .slice A0 n0 c0, .slice D0 m0 e0, .int .i64 z0], .agg #[.bool s1, .slice A1 n1 c1, .slice D1 m1 e1, .int .i64 z1]] w fun e w' => e = .returned (.int .i64 k) ∧ Below w.heap.size w w' := by
  have HK := Lib.hid hk
  clear hk
  go_enter Tryz.func102, Tryz.ntmps102
  go_wp2_with fail
  obtain ⟨W0, hW, b0, b1, hbW, hszW0⟩ := boxes2 w #[.bool s0, .slice A0 n0 c0, .slice D0 m0 e0, .int .i64 z0] #[.bool s1, .slice A1 n1 c1, .slice D1 m1 e1, .int .i64 z1] 133 133
  rw [hW]
  clear hW
  replace h := h.below hbW
  replace j := j.below hbW
  have H0 := hbW
  clear hbW
  have cb00 := b0.cell 0 _ rfl
  have cb01 := b0.cell 1 _ rfl
  have cb02 := b0.cell 2 _ rfl
  have cb03 := b0.cell 3 _ rfl
  have cb10 := b1.cell 0 _ rfl
  have cb11 := b1.cell 1 _ rfl
  have cb12 := b1.cell 2 _ rfl
  have cb13 := b1.cell 3 _ rfl
  go_wp2_with fail
  clear cb00 cb01 cb02 cb03 cb10 cb11 cb12 cb13
  refine (rcmp_v h.rq j.rq hL hL HK.out).mono ?_
  rintro e w1 ⟨rfl, hb⟩
  replace h := h.below hb
  replace j := j.below hb
  replace b0 := b0.below hb
  replace b1 := b1.below hb
  replace H0 := H0.trans (hb.mono H0.size)
  clear hb
  go_wp2_with fail
  go_returns
  exact ⟨rfl, H0⟩
set_option maxRecDepth 100000 in
set_option maxHeartbeats 4000000 in
theorem least_00 {w0 : World} {vc vd : Value} (hc : EnS w0 L vc []) (hd : EnS w0 L vd []) :
    Calls Tryz.prog 92 #[.agg #[vc, vd]] w fun e w' => e = .returned (.tuple #[.agg #[.bool false, .slice none 0 0, .slice none 0 0], .bool false]) ∧ Below w.heap.size w w' := by
  obtain ⟨A8, cp, e1, hcc, hcm⟩ := hc.form
  obtain ⟨A9, dp, e2, hdd, hdm⟩ := hd.form
  subst e1 e2
  clear hc
  clear hd
  unfold maxLen at hcm hdm
  go_enter Tryz.func92, Tryz.ntmps92
  go_wp2_with fail
  obtain ⟨W0, hW, b1, b2, hbW, hszW0⟩ := boxes2 w #[.slice A8 0 cp, .slice A9 0 dp] #[.bool false, .slice none 0 0, .slice none 0 0] 131 28
  rw [hW]
  clear hW
  have H0 := hbW
  clear hbW
  try simp only [List.length_nil]
  have hD := drawn_below W0
  replace b1 := b1.below hD
  replace b2 := b2.below hD
  replace H0 := H0.trans (hD.mono H0.size)
  clear hD
  refine wp_region_noPanic ?_
  refine wp_region_held_drew (S := (fun V => V.cell? ⟨w.heap.size, 0, none⟩ = some (.slice A8 0 cp) ∧ V.cell? ⟨w.heap.size, 1, none⟩ = some (.slice A9 0 dp))) (by kernel_rfl) (b1.all2) (fun hHeld => ?_)
  generalize W0.drew = v1 at H0 hHeld b1 b2 ⊢
  refine todo [0, 2, 1, 3, 4, 5] ?_
  iterate 6
    refine tkT ?_ rfl (by kernel_rfl) (fun _ _ _ h => h) (by rfl) (by assumption) ?_ ?_
    rotate_left
    · (intro w hSw; (try dsimp only at hSw); go_simp; (try with_reducible rfl))
    (try simp only [getElem_toArray, getElem_cons_succ, getElem_cons_zero, Act.put, setIfInBounds_toArray, set_cons_zero, set_cons_succ])
  refine tdone ?_
  refine wpAnyH_done (by kernel_rfl) ?_ _
  refine NoPanic.normal ?_
  obtain ⟨cb20, yb20, cb21, yb21, cb22, yb22⟩ := b2.cf3
  go_wp2_with fail
  clear cb20 yb20 cb21 yb21 cb22 yb22
  have hg := only_store3 v1 (w.heap.size + 1) (.bool false) (.slice none 0 0) (.slice none 0 0)
  have hB := b2.stored3 (.bool false) (.slice none 0 0) (.slice none 0 0)
  refine bodyPost_ret (ret_rat_b rfl rfl hB) rfl ?_
  exact ⟨rfl, below_only H0 hg (by omega) H0.size⟩
set_option maxRecDepth 100000 in
set_option maxHeartbeats 4000000 in
theorem least_10 {w0 : World} {vc vd : Value} {c : List (Rat × Int)} {e : Rat × Int} (HB : Below w0.heap.size w0 w) (hc : EnS w0 L vc (e :: c)) (hd : EnS w0 L vd []) :
    Calls Tryz.prog 92 #[.agg #[vc, vd]] w fun e9 w' => ∃ s0 A0 n0 c0 D0 m0 e0, e9 = .returned (.tuple #[.agg #[.bool s0, .slice A0 n0 c0, .slice D0 m0 e0], .bool true]) ∧ NQ w0 s0 (.slice A0 n0 c0) (.slice D0 m0 e0) (e.1) L ∧ Below w.heap.size w w' := by
  obtain ⟨A8, cp, e1, hcc, hcm⟩ := hc.form
  obtain ⟨A9, dp, e2, hdd, hdm⟩ := hd.form
  subst e1 e2
  obtain ⟨nc, hnc⟩ : ∃ n, (e :: c).length = n := ⟨_, rfl⟩
  have hpc : 0 < nc := by rw [← hnc]; exact Nat.succ_pos _
  rw [hnc] at hc hcc ⊢
  clear hnc
  clear hd
  unfold maxLen at hcm hdm
  obtain ⟨g, o, s0, A0, n0, c0, D0, m0, e0, rfl, p0, p1, p2, p3, kc⟩ := hc.head
  have qc0 : (((nc : Nat) : Int) == 0) = false := by rw [beq_eq_false_iff_ne]; omega
  have qc1 : decide ((0 : Int) < (nc : Int)) = true := decide_eq_true (by omega)
  clear hc
  have K0 := kc
  replace kc := kc.below HB
  replace p0 := p0.below HB
  replace p1 := p1.below HB
  replace p2 := p2.below HB
  replace p3 := p3.below HB
  go_enter Tryz.func92, Tryz.ntmps92
  go_wp2_with fail
  obtain ⟨W0, hW, b1, b2, hbW, hszW0⟩ := boxes2 w #[.slice (some ⟨g, o, none⟩) nc cp, .slice A9 0 dp] #[.bool false, .slice none 0 0, .slice none 0 0] 131 28
  rw [hW]
  clear hW
  replace kc := kc.below hbW
  replace p0 := p0.below hbW
  replace p1 := p1.below hbW
  replace p2 := p2.below hbW
  replace p3 := p3.below hbW
  have H0 := hbW
  clear hbW
  have hD := drawn_below W0
  replace kc := kc.below hD
  replace p0 := p0.below hD
  replace p1 := p1.below hD
  replace p2 := p2.below hD
  replace p3 := p3.below hD
  replace b1 := b1.below hD
  replace b2 := b2.below hD
  replace H0 := H0.trans (hD.mono H0.size)
  clear hD
  refine wp_region_noPanic ?_
  refine wp_region_held_drew (S := (fun V => V.cell? ⟨w.heap.size, 0, none⟩ = some (.slice (some ⟨g, o, none⟩) nc cp) ∧ V.cell? ⟨w.heap.size, 1, none⟩ = some (.slice A9 0 dp))) (by kernel_rfl) (b1.all2) (fun hHeld => ?_)
  generalize W0.drew = v1 at H0 hHeld kc p0 p1 p2 p3 b1 b2 ⊢
  refine todo [0, 2, 1, 3, 4, 5] ?_
  iterate 6
    refine tkT ?_ rfl (by kernel_rfl) (fun _ _ _ h => h) (by rfl) (by assumption) ?_ ?_
    rotate_left
    · (intro w hSw; (try dsimp only at hSw); go_simp; (try with_reducible rfl))
    (try simp only [getElem_toArray, getElem_cons_succ, getElem_cons_zero, Act.put, setIfInBounds_toArray, set_cons_zero, set_cons_succ])
  refine tdone ?_
  refine wpAnyH_done (by kernel_rfl) ?_ _
  refine NoPanic.normal ?_
  go_wp2_with fail
  have hD := drawn_below v1
  replace kc := kc.below hD
  replace p0 := p0.below hD
  replace p1 := p1.below hD
  replace p2 := p2.below hD
  replace p3 := p3.below hD
  replace b1 := b1.below hD
  replace b2 := b2.below hD
  replace H0 := H0.trans (hD.mono H0.size)
  clear hD
  refine wp_region_noPanic ?_
  refine wp_region_held_drew (S := (fun V => V.cell? ⟨g, o, none⟩ = some (.bool s0) ∧ V.cell? ⟨g, o + 1, none⟩ = some (.slice A0 n0 c0) ∧ V.cell? ⟨g, o + 2, none⟩ = some (.slice D0 m0 e0) ∧ V.cell? ⟨g, o + 3, none⟩ = some (.int .i64 e.2))) (by kernel_rfl) ⟨p0.eq, p1.eq, p2.eq, p3.eq⟩ (fun hHeld => ?_)
  generalize v1.drew = v2 at H0 hHeld kc p0 p1 p2 p3 b1 b2 ⊢
  refine todo [0, 1, 2, 3] ?_
  iterate 4
    refine tkT ?_ rfl (by kernel_rfl) (fun _ _ _ h => h) (by rfl) (by assumption) ?_ ?_
    rotate_left
    · (intro w hSw; (try dsimp only at hSw); go_simp; (try with_reducible rfl))
    (try simp only [getElem_toArray, getElem_cons_succ, getElem_cons_zero, Act.put, setIfInBounds_toArray, set_cons_zero, set_cons_succ])
  refine tdone ?_
  refine todo [4, 5, 6, 7, 8, 11, 9, 12, 10, 13, 14, 15, 16] ?_
  iterate 13
    refine tkS rfl (by kernel_rfl) (fun _ _ _ h => h) (by rfl) (by assumption) ?_
    (try simp only [getElem_toArray, getElem_cons_succ, getElem_cons_zero, Act.put, setIfInBounds_toArray, set_cons_zero, set_cons_succ])
  refine tdone ?_
  refine todo [17, 18] ?_
  iterate 2
    refine tkT ?_ rfl (by kernel_rfl) (fun _ _ _ h => h) (by rfl) (by assumption) ?_ ?_
    rotate_left
    · (intro w hSw; (try dsimp only at hSw); go_simp; (try with_reducible rfl))
    (try simp only [getElem_toArray, getElem_cons_succ, getElem_cons_zero, Act.put, setIfInBounds_toArray, set_cons_zero, set_cons_succ])
  refine tdone ?_
  refine wpAnyH_done (by kernel_rfl) ?_ _
  refine NoPanic.normal ?_
  have x0 := p0.eq
  have x1 := p1.eq
  have x2 := p2.eq
  obtain ⟨y0, y1, y2⟩ := b2.cells3
  have yf0 := b2.frozen 0
  have yf1 := b2.frozen 1
  have yf2 := b2.frozen 2
  go_wp2_with fail
  try clear x0 x1 x2
  try clear y0 y1 y2 yf0 yf1 yf2
  have hg := only_store3 v2 (w.heap.size + 1) (.bool s0) (.slice A0 n0 c0) (.slice D0 m0 e0)
  have hB := b2.stored3 (.bool s0) (.slice A0 n0 c0) (.slice D0 m0 e0)
  refine bodyPost_ret (ret_rat_b rfl rfl hB) rfl ?_
  exact ⟨s0, A0, n0, c0, D0, m0, e0, rfl, K0, below_only H0 hg (by omega) H0.size⟩
set_option maxRecDepth 100000 in
set_option maxHeartbeats 4000000 in
theorem least_01 {w0 : World} {vc vd : Value} {d : List (Rat × Int)} {f : Rat × Int} (HB : Below w0.heap.size w0 w) (hc : EnS w0 L vc []) (hd : EnS w0 L vd (f :: d)) :
    Calls Tryz.prog 92 #[.agg #[vc, vd]] w fun e9 w' => ∃ s0 A0 n0 c0 D0 m0 e0, e9 = .returned (.tuple #[.agg #[.bool s0, .slice A0 n0 c0, .slice D0 m0 e0], .bool true]) ∧ NQ w0 s0 (.slice A0 n0 c0) (.slice D0 m0 e0) (f.1) L ∧ Below w.heap.size w w' := by
  obtain ⟨A8, cp, e1, hcc, hcm⟩ := hc.form
  obtain ⟨A9, dp, e2, hdd, hdm⟩ := hd.form
  subst e1 e2
  clear hc
  obtain ⟨nd, hnd⟩ : ∃ n, (f :: d).length = n := ⟨_, rfl⟩
  have hpd : 0 < nd := by rw [← hnd]; exact Nat.succ_pos _
  rw [hnd] at hd hdd ⊢
  clear hnd
  unfold maxLen at hcm hdm
  obtain ⟨g', o', s1, A1, n1, c1, D1, m1, e1, rfl, r0, r1, r2, r3, kd⟩ := hd.head
  have qd0 : (((nd : Nat) : Int) == 0) = false := by rw [beq_eq_false_iff_ne]; omega
  clear hd
  have K1 := kd
  replace kd := kd.below HB
  replace r0 := r0.below HB
  replace r1 := r1.below HB
  replace r2 := r2.below HB
  replace r3 := r3.below HB
  go_enter Tryz.func92, Tryz.ntmps92
  go_wp2_with fail
  obtain ⟨W0, hW, b1, b2, hbW, hszW0⟩ := boxes2 w #[.slice A8 0 cp, .slice (some ⟨g', o', none⟩) nd dp] #[.bool false, .slice none 0 0, .slice none 0 0] 131 28
  rw [hW]
  clear hW
  replace kd := kd.below hbW
  replace r0 := r0.below hbW
  replace r1 := r1.below hbW
  replace r2 := r2.below hbW
  replace r3 := r3.below hbW
  have H0 := hbW
  clear hbW
  try simp only [List.length_nil]
  have hD := drawn_below W0
  replace kd := kd.below hD
  replace r0 := r0.below hD
  replace r1 := r1.below hD
  replace r2 := r2.below hD
  replace r3 := r3.below hD
  replace b1 := b1.below hD
  replace b2 := b2.below hD
  replace H0 := H0.trans (hD.mono H0.size)
  clear hD
  refine wp_region_noPanic ?_
  refine wp_region_held_drew (S := (fun V => V.cell? ⟨w.heap.size, 0, none⟩ = some (.slice A8 0 cp) ∧ V.cell? ⟨w.heap.size, 1, none⟩ = some (.slice (some ⟨g', o', none⟩) nd dp))) (by kernel_rfl) (b1.all2) (fun hHeld => ?_)
  generalize W0.drew = v1 at H0 hHeld kd r0 r1 r2 r3 b1 b2 ⊢
  refine todo [0, 2, 1, 3, 4, 5] ?_
  iterate 6
    refine tkT ?_ rfl (by kernel_rfl) (fun _ _ _ h => h) (by rfl) (by assumption) ?_ ?_
    rotate_left
    · (intro w hSw; (try dsimp only at hSw); go_simp; (try with_reducible rfl))
    (try simp only [getElem_toArray, getElem_cons_succ, getElem_cons_zero, Act.put, setIfInBounds_toArray, set_cons_zero, set_cons_succ])
  refine tdone ?_
  refine wpAnyH_done (by kernel_rfl) ?_ _
  refine NoPanic.normal ?_
  go_wp2_with fail
  have hD := drawn_below v1
  replace kd := kd.below hD
  replace r0 := r0.below hD
  replace r1 := r1.below hD
  replace r2 := r2.below hD
  replace r3 := r3.below hD
  replace b1 := b1.below hD
  replace b2 := b2.below hD
  replace H0 := H0.trans (hD.mono H0.size)
  clear hD
  refine wp_region_noPanic ?_
  refine wp_region_held_drew (S := (fun V => V.cell? ⟨g', o', none⟩ = some (.bool s1) ∧ V.cell? ⟨g', o' + 1, none⟩ = some (.slice A1 n1 c1) ∧ V.cell? ⟨g', o' + 2, none⟩ = some (.slice D1 m1 e1) ∧ V.cell? ⟨g', o' + 3, none⟩ = some (.int .i64 f.2))) (by kernel_rfl) ⟨r0.eq, r1.eq, r2.eq, r3.eq⟩ (fun hHeld => ?_)
  generalize v1.drew = v2 at H0 hHeld kd r0 r1 r2 r3 b1 b2 ⊢
  refine todo [0, 1, 2, 3, 4, 5, 6, 7] ?_
  iterate 8
    refine tkT ?_ rfl (by kernel_rfl) (fun _ _ _ h => h) (by rfl) (by assumption) ?_ ?_
    rotate_left
    · (intro w hSw; (try dsimp only at hSw); go_simp; (try with_reducible rfl))
    (try simp only [getElem_toArray, getElem_cons_succ, getElem_cons_zero, Act.put, setIfInBounds_toArray, set_cons_zero, set_cons_succ])
  refine tdone ?_
  refine todo [8, 11, 9, 12, 10, 13, 14, 15] ?_
  iterate 8
    refine tkS rfl (by kernel_rfl) (fun _ _ _ h => h) (by rfl) (by assumption) ?_
    (try simp only [getElem_toArray, getElem_cons_succ, getElem_cons_zero, Act.put, setIfInBounds_toArray, set_cons_zero, set_cons_succ])
  refine tdone ?_
  refine todo [16, 17, 18] ?_
  iterate 3
    refine tkT ?_ rfl (by kernel_rfl) (fun _ _ _ h => h) (by rfl) (by assumption) ?_ ?_
    rotate_left
    · (intro w hSw; (try dsimp only at hSw); go_simp; (try with_reducible rfl))
    (try simp only [getElem_toArray, getElem_cons_succ, getElem_cons_zero, Act.put, setIfInBounds_toArray, set_cons_zero, set_cons_succ])
  refine tdone ?_
  refine wpAnyH_done (by kernel_rfl) ?_ _
  refine NoPanic.normal ?_
  have x0 := r0.eq
  have x1 := r1.eq
  have x2 := r2.eq
  obtain ⟨y0, y1, y2⟩ := b2.cells3
  have yf0 := b2.frozen 0
  have yf1 := b2.frozen 1
  have yf2 := b2.frozen 2
  go_wp2_with fail
  try clear x0 x1 x2
  try clear y0 y1 y2 yf0 yf1 yf2
  have hg := only_store3 v2 (w.heap.size + 1) (.bool s1) (.slice A1 n1 c1) (.slice D1 m1 e1)
  have hB := b2.stored3 (.bool s1) (.slice A1 n1 c1) (.slice D1 m1 e1)
  refine bodyPost_ret (ret_rat_b rfl rfl hB) rfl ?_
  exact ⟨s1, A1, n1, c1, D1, m1, e1, rfl, K1, below_only H0 hg (by omega) H0.size⟩
set_option maxRecDepth 100000 in
set_option maxHeartbeats 4000000 in
theorem least_lt {w0 : World} {vc vd : Value} {c d : List (Rat × Int)} {e f : Rat × Int} (HB : Below w0.heap.size w0 w) (hc : EnS w0 L vc (e :: c)) (hd : EnS w0 L vd (f :: d)) (hlt : e.1 ≤ f.1) (hL : L ≤ 100000) :
    Calls Tryz.prog 92 #[.agg #[vc, vd]] w fun e9 w' => ∃ s0 A0 n0 c0 D0 m0 e0, e9 = .returned (.tuple #[.agg #[.bool s0, .slice A0 n0 c0, .slice D0 m0 e0], .bool true]) ∧ NQ w0 s0 (.slice A0 n0 c0) (.slice D0 m0 e0) (e.1) L ∧ Below w.heap.size w w' := by
  obtain ⟨A8, cp, e1, hcc, hcm⟩ := hc.form
  obtain ⟨A9, dp, e2, hdd, hdm⟩ := hd.form
  subst e1 e2
  obtain ⟨nc, hnc⟩ : ∃ n, (e :: c).length = n := ⟨_, rfl⟩
  have hpc : 0 < nc := by rw [← hnc]; exact Nat.succ_pos _
  rw [hnc] at hc hcc ⊢
  clear hnc
  obtain ⟨nd, hnd⟩ : ∃ n, (f :: d).length = n := ⟨_, rfl⟩
  have hpd : 0 < nd := by rw [← hnd]; exact Nat.succ_pos _
  rw [hnd] at hd hdd ⊢
  clear hnd
  unfold maxLen at hcm hdm
  obtain ⟨g, o, s0, A0, n0, c0, D0, m0, e0, rfl, p0, p1, p2, p3, kc⟩ := hc.head
  have qc0 : (((nc : Nat) : Int) == 0) = false := by rw [beq_eq_false_iff_ne]; omega
  have qc1 : decide ((0 : Int) < (nc : Int)) = true := decide_eq_true (by omega)
  clear hc
  have K0 := kc
  replace kc := kc.below HB
  replace p0 := p0.below HB
  replace p1 := p1.below HB
  replace p2 := p2.below HB
  replace p3 := p3.below HB
  obtain ⟨g', o', s1, A1, n1, c1, D1, m1, e1, rfl, r0, r1, r2, r3, kd⟩ := hd.head
  have qd0 : (((nd : Nat) : Int) == 0) = false := by rw [beq_eq_false_iff_ne]; omega
  clear hd
  have K1 := kd
  replace kd := kd.below HB
  replace r0 := r0.below HB
  replace r1 := r1.below HB
  replace r2 := r2.below HB
  replace r3 := r3.below HB
  obtain ⟨kk, hkk⟩ : ∃ k, rsg (e.1 - f.1) = k := ⟨_, rfl⟩
  have HK := Lib.hid hkk
  have qk : decide (kk ≤ 0) = true := by rw [← hkk]; rcases rsg_tri e.1 f.1 with ⟨h1, h2⟩ | ⟨h1, h2⟩ | ⟨h1, h2⟩ <;> rw [h1] <;> first | rfl | exact absurd h2 (by grind)
  clear hkk hlt
  go_enter Tryz.func92, Tryz.ntmps92
  go_wp2_with fail
  obtain ⟨W0, hW, b1, b2, hbW, hszW0⟩ := boxes2 w #[.slice (some ⟨g, o, none⟩) nc cp, .slice (some ⟨g', o', none⟩) nd dp] #[.bool false, .slice none 0 0, .slice none 0 0] 131 28
  rw [hW]
  clear hW
  replace kc := kc.below hbW
  replace p0 := p0.below hbW
  replace p1 := p1.below hbW
  replace p2 := p2.below hbW
  replace p3 := p3.below hbW
  replace kd := kd.below hbW
  replace r0 := r0.below hbW
  replace r1 := r1.below hbW
  replace r2 := r2.below hbW
  replace r3 := r3.below hbW
  have H0 := hbW
  clear hbW
  have hD := drawn_below W0
  replace kc := kc.below hD
  replace p0 := p0.below hD
  replace p1 := p1.below hD
  replace p2 := p2.below hD
  replace p3 := p3.below hD
  replace kd := kd.below hD
  replace r0 := r0.below hD
  replace r1 := r1.below hD
  replace r2 := r2.below hD
  replace r3 := r3.below hD
  replace b1 := b1.below hD
  replace b2 := b2.below hD
  replace H0 := H0.trans (hD.mono H0.size)
  clear hD
  refine wp_region_noPanic ?_
  refine wp_region_held_drew (S := (fun V => V.cell? ⟨w.heap.size, 0, none⟩ = some (.slice (some ⟨g, o, none⟩) nc cp) ∧ V.cell? ⟨w.heap.size, 1, none⟩ = some (.slice (some ⟨g', o', none⟩) nd dp))) (by kernel_rfl) (b1.all2) (fun hHeld => ?_)
  generalize W0.drew = v1 at H0 hHeld kc p0 p1 p2 p3 kd r0 r1 r2 r3 b1 b2 ⊢
  refine todo [0, 2, 1, 3, 4, 5] ?_
  iterate 6
    refine tkT ?_ rfl (by kernel_rfl) (fun _ _ _ h => h) (by rfl) (by assumption) ?_ ?_
    rotate_left
    · (intro w hSw; (try dsimp only at hSw); go_simp; (try with_reducible rfl))
    (try simp only [getElem_toArray, getElem_cons_succ, getElem_cons_zero, Act.put, setIfInBounds_toArray, set_cons_zero, set_cons_succ])
  refine tdone ?_
  refine wpAnyH_done (by kernel_rfl) ?_ _
  refine NoPanic.normal ?_
  go_wp2_with fail
  have hD := drawn_below v1
  replace kc := kc.below hD
  replace p0 := p0.below hD
  replace p1 := p1.below hD
  replace p2 := p2.below hD
  replace p3 := p3.below hD
  replace kd := kd.below hD
  replace r0 := r0.below hD
  replace r1 := r1.below hD
  replace r2 := r2.below hD
  replace r3 := r3.below hD
  replace b1 := b1.below hD
  replace b2 := b2.below hD
  replace H0 := H0.trans (hD.mono H0.size)
  clear hD
  refine wp_region_noPanic ?_
  refine wp_region_held_drew (S := (fun V => V.cell? ⟨g, o, none⟩ = some (.bool s0) ∧ V.cell? ⟨g, o + 1, none⟩ = some (.slice A0 n0 c0) ∧ V.cell? ⟨g, o + 2, none⟩ = some (.slice D0 m0 e0) ∧ V.cell? ⟨g, o + 3, none⟩ = some (.int .i64 e.2) ∧ V.cell? ⟨g', o', none⟩ = some (.bool s1) ∧ V.cell? ⟨g', o' + 1, none⟩ = some (.slice A1 n1 c1) ∧ V.cell? ⟨g', o' + 2, none⟩ = some (.slice D1 m1 e1) ∧ V.cell? ⟨g', o' + 3, none⟩ = some (.int .i64 f.2))) (by kernel_rfl) ⟨p0.eq, p1.eq, p2.eq, p3.eq, r0.eq, r1.eq, r2.eq, r3.eq⟩ (fun hHeld => ?_)
  generalize v1.drew = v2 at H0 hHeld kc p0 p1 p2 p3 kd r0 r1 r2 r3 b1 b2 ⊢
  refine todo [0, 1, 2, 3, 4, 5, 6, 7, 8, 11, 9, 12, 10, 13] ?_
  iterate 14
    refine tkT ?_ rfl (by kernel_rfl) (fun _ _ _ h => h) (by rfl) (by assumption) ?_ ?_
    rotate_left
    · (intro w hSw; (try dsimp only at hSw); go_simp; (try with_reducible rfl))
    (try simp only [getElem_toArray, getElem_cons_succ, getElem_cons_zero, Act.put, setIfInBounds_toArray, set_cons_zero, set_cons_succ])
  refine tdone ?_
  refine rd1 14 (by kernel_rfl) rfl (fun K hK => ?_)
  go_simp
  go_at_call 102
  refine (ecmp_v kc kd hL HK.out).mono ?_
  rintro e w3 ⟨rfl, hb⟩
  replace kc := kc.below hb
  replace p0 := p0.below hb
  replace p1 := p1.below hb
  replace p2 := p2.below hb
  replace p3 := p3.below hb
  replace kd := kd.below hb
  replace r0 := r0.below hb
  replace r1 := r1.below hb
  replace r2 := r2.below hb
  replace r3 := r3.below hb
  replace b1 := b1.below hb
  replace b2 := b2.below hb
  replace H0 := H0.trans (hb.mono H0.size)
  clear hb
  go_wp2_with fail
  refine hK.out _ _ ⟨p0.eq, p1.eq, p2.eq, p3.eq, r0.eq, r1.eq, r2.eq, r3.eq⟩ (fun hHeld => ?_)
  clear hK K
  (try simp only [getElem_toArray, getElem_cons_succ, getElem_cons_zero, Act.put, setIfInBounds_toArray, set_cons_zero, set_cons_succ])
  refine todo [15, 16, 17, 18] ?_
  iterate 4
    refine tkT ?_ rfl (by kernel_rfl) (fun _ _ _ h => h) (by rfl) (by assumption) ?_ ?_
    rotate_left
    · (intro w hSw; (try dsimp only at hSw); go_simp; (try with_reducible rfl))
    (try simp only [getElem_toArray, getElem_cons_succ, getElem_cons_zero, Act.put, setIfInBounds_toArray, set_cons_zero, set_cons_succ])
  refine tdone ?_
  refine wpAnyH_done (by kernel_rfl) ?_ _
  refine NoPanic.normal ?_
  have x0 := p0.eq
  have x1 := p1.eq
  have x2 := p2.eq
  obtain ⟨y0, y1, y2⟩ := b2.cells3
  have yf0 := b2.frozen 0
  have yf1 := b2.frozen 1
  have yf2 := b2.frozen 2
  go_wp2_with fail
  try clear x0 x1 x2
  try clear y0 y1 y2 yf0 yf1 yf2
  have hg := only_store3 w3 (w.heap.size + 1) (.bool s0) (.slice A0 n0 c0) (.slice D0 m0 e0)
  have hB := b2.stored3 (.bool s0) (.slice A0 n0 c0) (.slice D0 m0 e0)
  refine bodyPost_ret (ret_rat_b rfl rfl hB) rfl ?_
  exact ⟨s0, A0, n0, c0, D0, m0, e0, rfl, K0, below_only H0 hg (by omega) H0.size⟩
set_option maxRecDepth 100000 in
set_option maxHeartbeats 4000000 in
theorem least_gt {w0 : World} {vc vd : Value} {c d : List (Rat × Int)} {e f : Rat × Int} (HB : Below w0.heap.size w0 w) (hc : EnS w0 L vc (e :: c)) (hd : EnS w0 L vd (f :: d)) (hlt : f.1 < e.1) (hL : L ≤ 100000) :
    Calls Tryz.prog 92 #[.agg #[vc, vd]] w fun e9 w' => ∃ s0 A0 n0 c0 D0 m0 e0, e9 = .returned (.tuple #[.agg #[.bool s0, .slice A0 n0 c0, .slice D0 m0 e0], .bool true]) ∧ NQ w0 s0 (.slice A0 n0 c0) (.slice D0 m0 e0) (f.1) L ∧ Below w.heap.size w w' := by
  obtain ⟨A8, cp, e1, hcc, hcm⟩ := hc.form
  obtain ⟨A9, dp, e2, hdd, hdm⟩ := hd.form
  subst e1 e2
  obtain ⟨nc, hnc⟩ : ∃ n, (e :: c).length = n := ⟨_, rfl⟩
  have hpc : 0 < nc := by rw [← hnc]; exact Nat.succ_pos _
  rw [hnc] at hc hcc ⊢
  clear hnc
  obtain ⟨nd, hnd⟩ : ∃ n, (f :: d).length = n := ⟨_, rfl⟩
  have hpd : 0 < nd := by rw [← hnd]; exact Nat.succ_pos _
  rw [hnd] at hd hdd ⊢
  clear hnd
  unfold maxLen at hcm hdm
  obtain ⟨g, o, s0, A0, n0, c0, D0, m0, e0, rfl, p0, p1, p2, p3, kc⟩ := hc.head
  have qc0 : (((nc : Nat) : Int) == 0) = false := by rw [beq_eq_false_iff_ne]; omega
  have qc1 : decide ((0 : Int) < (nc : Int)) = true := decide_eq_true (by omega)
  clear hc
  have K0 := kc
  replace kc := kc.below HB
  replace p0 := p0.below HB
  replace p1 := p1.below HB
  replace p2 := p2.below HB
  replace p3 := p3.below HB
  obtain ⟨g', o', s1, A1, n1, c1, D1, m1, e1, rfl, r0, r1, r2, r3, kd⟩ := hd.head
  have qd0 : (((nd : Nat) : Int) == 0) = false := by rw [beq_eq_false_iff_ne]; omega
  clear hd
  have K1 := kd
  replace kd := kd.below HB
  replace r0 := r0.below HB
  replace r1 := r1.below HB
  replace r2 := r2.below HB
  replace r3 := r3.below HB
  obtain ⟨kk, hkk⟩ : ∃ k, rsg (e.1 - f.1) = k := ⟨_, rfl⟩
  have HK := Lib.hid hkk
  have qk : decide (kk ≤ 0) = false := by rw [← hkk]; rcases rsg_tri e.1 f.1 with ⟨h1, h2⟩ | ⟨h1, h2⟩ | ⟨h1, h2⟩ <;> rw [h1] <;> first | rfl | exact absurd h2 (by grind)
  clear hkk hlt
  go_enter Tryz.func92, Tryz.ntmps92
  go_wp2_with fail
  obtain ⟨W0, hW, b1, b2, hbW, hszW0⟩ := boxes2 w #[.slice (some ⟨g, o, none⟩) nc cp, .slice (some ⟨g', o', none⟩) nd dp] #[.bool false, .slice none 0 0, .slice none 0 0] 131 28
  rw [hW]
  clear hW
  replace kc := kc.below hbW
  replace p0 := p0.below hbW
  replace p1 := p1.below hbW
  replace p2 := p2.below hbW
  replace p3 := p3.below hbW
  replace kd := kd.below hbW
  replace r0 := r0.below hbW
  replace r1 := r1.below hbW
  replace r2 := r2.below hbW
  replace r3 := r3.below hbW
  have H0 := hbW
  clear hbW
  have hD := drawn_below W0
  replace kc := kc.below hD
  replace p0 := p0.below hD
  replace p1 := p1.below hD
  replace p2 := p2.below hD
  replace p3 := p3.below hD
  replace kd := kd.below hD
  replace r0 := r0.below hD
  replace r1 := r1.below hD
  replace r2 := r2.below hD
  replace r3 := r3.below hD
  replace b1 := b1.below hD
  replace b2 := b2.below hD
  replace H0 := H0.trans (hD.mono H0.size)
  clear hD
  refine wp_region_noPanic ?_
  refine wp_region_held_drew (S := (fun V => V.cell? ⟨w.heap.size, 0, none⟩ = some (.slice (some ⟨g, o, none⟩) nc cp) ∧ V.cell? ⟨w.heap.size, 1, none⟩ = some (.slice (some ⟨g', o', none⟩) nd dp))) (by kernel_rfl) (b1.all2) (fun hHeld => ?_)
  generalize W0.drew = v1 at H0 hHeld kc p0 p1 p2 p3 kd r0 r1 r2 r3 b1 b2 ⊢
  refine todo [0, 2, 1, 3, 4, 5] ?_
  iterate 6
    refine tkT ?_ rfl (by kernel_rfl) (fun _ _ _ h => h) (by rfl) (by assumption) ?_ ?_
    rotate_left
    · (intro w hSw; (try dsimp only at hSw); go_simp; (try with_reducible rfl))
    (try simp only [getElem_toArray, getElem_cons_succ, getElem_cons_zero, Act.put, setIfInBounds_toArray, set_cons_zero, set_cons_succ])
  refine tdone ?_
  refine wpAnyH_done (by kernel_rfl) ?_ _
  refine NoPanic.normal ?_
  go_wp2_with fail
  have hD := drawn_below v1
  replace kc := kc.below hD
  replace p0 := p0.below hD
  replace p1 := p1.below hD
  replace p2 := p2.below hD
  replace p3 := p3.below hD
  replace kd := kd.below hD
  replace r0 := r0.below hD
  replace r1 := r1.below hD
  replace r2 := r2.below hD
  replace r3 := r3.below hD
  replace b1 := b1.below hD
  replace b2 := b2.below hD
  replace H0 := H0.trans (hD.mono H0.size)
  clear hD
  refine wp_region_noPanic ?_
  refine wp_region_held_drew (S := (fun V => V.cell? ⟨g, o, none⟩ = some (.bool s0) ∧ V.cell? ⟨g, o + 1, none⟩ = some (.slice A0 n0 c0) ∧ V.cell? ⟨g, o + 2, none⟩ = some (.slice D0 m0 e0) ∧ V.cell? ⟨g, o + 3, none⟩ = some (.int .i64 e.2) ∧ V.cell? ⟨g', o', none⟩ = some (.bool s1) ∧ V.cell? ⟨g', o' + 1, none⟩ = some (.slice A1 n1 c1) ∧ V.cell? ⟨g', o' + 2, none⟩ = some (.slice D1 m1 e1) ∧ V.cell? ⟨g', o' + 3, none⟩ = some (.int .i64 f.2))) (by kernel_rfl) ⟨p0.eq, p1.eq, p2.eq, p3.eq, r0.eq, r1.eq, r2.eq, r3.eq⟩ (fun hHeld => ?_)
  generalize v1.drew = v2 at H0 hHeld kc p0 p1 p2 p3 kd r0 r1 r2 r3 b1 b2 ⊢
  refine todo [0, 1, 2, 3, 4, 5, 6, 7, 8, 11, 9, 12, 10, 13] ?_
  iterate 14
    refine tkT ?_ rfl (by kernel_rfl) (fun _ _ _ h => h) (by rfl) (by assumption) ?_ ?_
    rotate_left
    · (intro w hSw; (try dsimp only at hSw); go_simp; (try with_reducible rfl))
    (try simp only [getElem_toArray, getElem_cons_succ, getElem_cons_zero, Act.put, setIfInBounds_toArray, set_cons_zero, set_cons_succ])
  refine tdone ?_
  refine rd1 14 (by kernel_rfl) rfl (fun K hK => ?_)
  go_simp
  go_at_call 102
  refine (ecmp_v kc kd hL HK.out).mono ?_
  rintro e w3 ⟨rfl, hb⟩
  replace kc := kc.below hb
  replace p0 := p0.below hb
  replace p1 := p1.below hb
  replace p2 := p2.below hb
  replace p3 := p3.below hb
  replace kd := kd.below hb
  replace r0 := r0.below hb
  replace r1 := r1.below hb
  replace r2 := r2.below hb
  replace r3 := r3.below hb
  replace b1 := b1.below hb
  replace b2 := b2.below hb
  replace H0 := H0.trans (hb.mono H0.size)
  clear hb
  go_wp2_with fail
  refine hK.out _ _ ⟨p0.eq, p1.eq, p2.eq, p3.eq, r0.eq, r1.eq, r2.eq, r3.eq⟩ (fun hHeld => ?_)
  clear hK K
  (try simp only [getElem_toArray, getElem_cons_succ, getElem_cons_zero, Act.put, setIfInBounds_toArray, set_cons_zero, set_cons_succ])
  refine todo [15, 16, 17, 18] ?_
  iterate 4
    refine tkT ?_ rfl (by kernel_rfl) (fun _ _ _ h => h) (by rfl) (by assumption) ?_ ?_
    rotate_left
    · (intro w hSw; (try dsimp only at hSw); go_simp; (try with_reducible rfl))
    (try simp only [getElem_toArray, getElem_cons_succ, getElem_cons_zero, Act.put, setIfInBounds_toArray, set_cons_zero, set_cons_succ])
  refine tdone ?_
  refine wpAnyH_done (by kernel_rfl) ?_ _
  refine NoPanic.normal ?_
  have x0 := r0.eq
  have x1 := r1.eq
  have x2 := r2.eq
  obtain ⟨y0, y1, y2⟩ := b2.cells3
  have yf0 := b2.frozen 0
  have yf1 := b2.frozen 1
  have yf2 := b2.frozen 2
  go_wp2_with fail
  try clear x0 x1 x2
  try clear y0 y1 y2 yf0 yf1 yf2
  have hg := only_store3 w3 (w.heap.size + 1) (.bool s1) (.slice A1 n1 c1) (.slice D1 m1 e1)
  have hB := b2.stored3 (.bool s1) (.slice A1 n1 c1) (.slice D1 m1 e1)
  refine bodyPost_ret (ret_rat_b rfl rfl hB) rfl ?_
  exact ⟨s1, A1, n1, c1, D1, m1, e1, rfl, K1, below_only H0 hg (by omega) H0.size⟩
/-- least: the least number of two ascending lists, and whether there is one. -/
theorem least_v {w0 : World} {vc vd : Value} {c d : List (Rat × Int)} (HB : Below w0.heap.size w0 w) (hc : EnS w0 L vc c) (hd : EnS w0 L vd d) (hL : L ≤ 100000) :
    Calls Tryz.prog 92 #[.agg #[vc, vd]] w fun e9 w' => ∃ s0 A0 n0 c0 D0 m0 e0, e9 = .returned (.tuple #[.agg #[.bool s0, .slice A0 n0 c0, .slice D0 m0 e0], .bool (leastT c d).isSome]) ∧ (∀ a, leastT c d = some a → NQ w0 s0 (.slice A0 n0 c0) (.slice D0 m0 e0) a L) ∧ Below w.heap.size w w' := by
  have key : ∀ {a : Rat}, leastT c d = some a → (Calls Tryz.prog 92 #[.agg #[vc, vd]] w fun e9 w' => ∃ s0 A0 n0 c0 D0 m0 e0, e9 = .returned (.tuple #[.agg #[.bool s0, .slice A0 n0 c0, .slice D0 m0 e0], .bool true]) ∧ NQ w0 s0 (.slice A0 n0 c0) (.slice D0 m0 e0) a L ∧ Below w.heap.size w w') →
      Calls Tryz.prog 92 #[.agg #[vc, vd]] w fun e9 w' => ∃ s0 A0 n0 c0 D0 m0 e0, e9 = .returned (.tuple #[.agg #[.bool s0, .slice A0 n0 c0, .slice D0 m0 e0], .bool (leastT c d).isSome]) ∧ (∀ a, leastT c d = some a → NQ w0 s0 (.slice A0 n0 c0) (.slice D0 m0 e0) a L) ∧ Below w.heap.size w w' := fun {a} ha h => h.mono fun e9 w' ⟨s0, A0, n0, c0, D0, m0, e0, h1, h2, h3⟩ =>
    ⟨s0, A0, n0, c0, D0, m0, e0, by rw [ha]; exact h1, fun b hb => by rw [ha] at hb; injection hb with hb; subst hb; exact h2, h3⟩
  cases c with
  | nil =>
    cases d with
    | nil => exact (least_00 hc hd).mono fun e9 w' ⟨h1, h2⟩ => ⟨_, _, _, _, _, _, _, h1, fun a ha => (by cases ha), h2⟩
    | cons f d => exact key rfl (least_01 HB hc hd)
  | cons e c =>
    cases d with
    | nil => exact key rfl (least_10 HB hc hd)
    | cons f d =>
      by_cases h : f.1 < e.1
      · exact key (by show some (if f.1 < e.1 then f.1 else e.1) = some f.1; rw [if_pos h]) (least_gt HB hc hd h hL)
      · exact key (by show some (if f.1 < e.1 then f.1 else e.1) = some e.1; rw [if_neg h]) (least_lt HB hc hd (by grind) hL)
end
end Go.Proofs.YtpgkkkodniiilaaGreatDoor
namespace Go.Proofs.YtpgkkkodniiilaaGreatDoor
open List (getElem_toArray getElem_cons_succ getElem_cons_zero setIfInBounds_toArray set_cons_zero set_cons_succ)
open Go.RowKit
section
variable {f0 h0 f1 h1 f2 h2 f3 h3 f4 h4 f5 h5 f6 h6 f7 h7 f8 h8 f9 h9 f10 h10 f11 h11 : Bool} {A0 A1 A2 A3 A5 A6 A7 A8 A9 D0 D1 D2 D3 D7 : Option Addr} {n0 n1 n2 n3 n5 n7 c0 c1 c2 c3 c5 c6 c7 m0 m1 m2 m3 m7 e0 e1 e2 e3 e4 e5 e6 e7 e8 e9 : Nat} {s0 s1 s2 s3 s4 s7 : Bool} {q0 q1 q2 q3 q4 q5 q6 q7 : Rat} {z0 z1 z2 z3 z4 z5 z6 z7 z8 z9 z10 z11 : Int} {L L0 L1 x y : Nat} {k : Int} {b : Bool} {w : World}
variable {o0 o1 o2 o3 : Option Rat} {l l' : List Sp}
/-- Nothing but blocks a and b has turned. -/
structure Fr (w w' : World) (a b : Nat) : Prop where
  os : w'.os = w.os
  tape : w'.tape = w.tape
  output : w'.output = w.output
  size : w.heap.size ≤ w'.heap.size
  block : ∀ k, k < w.heap.size → k ≠ a → k ≠ b → w'.heap[k]? = w.heap[k]?
section
variable {w' w2 : World} {a b B : Nat}
theorem Fr.refl (w : World) (a b : Nat) : Fr w w a b := ⟨rfl, rfl, rfl, Nat.le_refl _, fun _ _ _ _ => rfl⟩
theorem Fr.below (h : Fr w w' a b) (hb : Below w'.heap.size w' w2) : Fr w w2 a b := ⟨hb.os.trans h.os, hb.tape.trans h.tape, hb.output.trans h.output, Nat.le_trans h.size hb.size, fun k hk ha hc => (hb.block k (Nat.lt_of_lt_of_le hk h.size)).trans (h.block k hk ha hc)⟩
theorem Fr.fst (h : Fr w w' a b) (hg : w'.grownBy w2 (some a)) : Fr w w2 a b := ⟨hg.os.trans h.os, hg.tape.trans h.tape, hg.output.trans h.output, Nat.le_trans h.size hg.size, fun k hk ha hc => (hg.block k (Nat.lt_of_lt_of_le hk h.size) (fun he => ha (by injection he))).trans (h.block k hk ha hc)⟩
theorem Fr.snd (h : Fr w w' a b) (hg : w'.grownBy w2 (some b)) : Fr w w2 a b := ⟨hg.os.trans h.os, hg.tape.trans h.tape, hg.output.trans h.output, Nat.le_trans h.size hg.size, fun k hk ha hc => (hg.block k (Nat.lt_of_lt_of_le hk h.size) (fun he => hc (by injection he))).trans (h.block k hk ha hc)⟩
theorem Fr.box {g : Nat} {cs : Array Value} {t : TypeId} (h : Fr w w' a b) (hx : Box w g cs t) (ha : g ≠ a) (hc : g ≠ b) : Box w' g cs t := (h.block g hx.lt ha hc).trans hx
theorem Fr.under {w0 : World} (h : Fr w w' a b) (hb : Below B w0 w) (hB : B ≤ w.heap.size) (ha : B ≤ a) (hc : B ≤ b) : Below B w0 w' :=
  hb.trans ⟨h.os, h.tape, h.output, h.size, fun k hk => h.block k (by omega) (by omega) (by omega)⟩
end
theorem EnS.tail {A : Option Addr} {g o n c : Nat} {e : Rat × Int} {l : List (Rat × Int)} (h : EnS w L (.slice (some ⟨g, o, none⟩) n c) (e :: l)) (hA : l ≠ [] → A = some ⟨g, o + 4, none⟩) : EnS w L (.slice A (n - 1) (c - 1)) l := by
  obtain ⟨css, ⟨hk, A', c', e1, h1, h2, hr⟩, ha⟩ := h
  injection e1 with e1 e2 e3
  subst e1 e2 e3
  cases css with
  | nil => cases ha
  | cons cs css =>
    refine ⟨css, ⟨fun x hx => hk x (List.mem_cons_of_mem _ hx), A, c - 1, by simp, by simp at h1; omega, by omega, fun hne => ?_⟩, ha.2⟩
    have hl : l ≠ [] := fun hl => hne (List.eq_nil_of_length_eq_zero (by rw [All2.len ha.2, hl]; rfl))
    obtain ⟨g', o', e4, hcell⟩ := hr (by simp)
    injection e4 with e4
    injection e4 with e5 e6
    subst e5 e6
    refine ⟨g, o + 4, hA hl, fun i cs' hi j x hx => ?_⟩
    have := hcell (i + 1) cs' hi j x hx
    rwa [show o + ((i + 1) * 4 + j) = o + 4 + (i * 4 + j) by omega] at this
/-- All changes are 1 or -1. -/
def Unit1 (l : List (Rat × Int)) : Prop := ∀ e ∈ l, e.2 = 1 ∨ e.2 = -1
theorem takeSum_bd {l : List (Rat × Int)} (h : Unit1 l) (q : Rat) : -(l.length : Int) ≤ takeSum q l ∧ takeSum q l ≤ l.length := by
  induction l with
  | nil => simp [takeSum]
  | cons e l ih =>
    have h1 := h e (List.mem_cons_self ..)
    have h2 := ih fun x hx => h x (List.mem_cons_of_mem _ hx)
    unfold takeSum
    split <;> simp only [List.length_cons] <;> omega
theorem Unit1.drop {l : List (Rat × Int)} (h : Unit1 l) (q : Rat) : Unit1 (dropAt q l) := fun e he => h e (dropAt_sub he)
theorem only_store1 (w : World) (g : Nat) (u : Value) : w.grownBy (w.setCell ⟨g, 0, none⟩ u) (some g) := only_setCell w ⟨g, 0, none⟩ u
theorem Box.stored1 {g : Nat} {a : Value} {t : TypeId} (h : Box w g #[a] t) (u : Value) : Box (w.setCell ⟨g, 0, none⟩ u) g #[u] t := by
  have h9 := h.step 0 u
  simpa using h9
theorem takeSum_self {l : List (Rat × Int)} {q : Rat} (h : dropAt q l = l) : takeSum q l = 0 := by
  cases l with
  | nil => rfl
  | cons e l =>
    unfold dropAt at h
    unfold takeSum
    split at h
    · have := dropAt_len q l; rw [h] at this; simp at this; omega
    · rw [if_neg (by assumption)]
set_option maxRecDepth 100000 in
set_option maxHeartbeats 4000000 in
theorem pass_v {w0 : World} {vc vd : Value} {c d : List (Rat × Int)} {ga gop : Nat} {oz : Int} {q : Rat} (hc : EnS w0 L vc c) (hd : EnS w0 L vd d) (HB0 : Below w0.heap.size w0 w) (hga : w0.heap.size ≤ ga) (hgo : w0.heap.size ≤ gop) (hne : ga ≠ gop) (ba : Box w ga #[vc, vd] 131) (bo : Box w gop #[.int .i64 oz] 3) (hq : NQ w0 s0 (.slice A0 n0 c0) (.slice D0 m0 e0) q L) (hUc : Unit1 c) (hUd : Unit1 d) (ho1 : -50000 ≤ oz) (ho2 : oz ≤ 50000) (hlc : c.length ≤ 20000) (hld : d.length ≤ 20000) (hL : L ≤ 100000) :
    Calls Tryz.prog 91 #[.agg #[.bool s0, .slice A0 n0 c0, .slice D0 m0 e0], .pointer (some ⟨ga, 0, none⟩), .pointer (some ⟨gop, 0, none⟩)] w fun e w' => e = .returned (.tuple #[]) ∧ (∃ vc' vd', EnS w0 L vc' (dropAt q c) ∧ EnS w0 L vd' (dropAt q d) ∧ Box w' ga #[vc', vd'] 131) ∧ Box w' gop #[.int .i64 (oz + takeSum q c + takeSum q d)] 3 ∧ Fr w w' ga gop := by
  obtain ⟨A8, cp8, e8, hcc8, hcm8⟩ := hc.form
  obtain ⟨A9, cp9, e9, hcc9, hcm9⟩ := hd.form
  subst e8 e9
  have hsc := takeSum_bd hUc q
  have hix0 : ∀ W : World, (Instr.index 131 (.agg #[.slice A8 c.length cp8, .slice A9 d.length cp9]) (.int .i64 0)).run Tryz.prog W = .ok (.slice A8 c.length cp8) W := fun W => by kernel_rfl
  have hix1 : ∀ W : World, (Instr.index 131 (.agg #[.slice A8 c.length cp8, .slice A9 d.length cp9]) (.int .i64 1)).run Tryz.prog W = .ok (.slice A9 d.length cp9) W := fun W => by kernel_rfl
  have hszw := HB0.size
  obtain ⟨V0, hV, b3, hbV, hsV⟩ := boxes1 w #[.bool s0, .slice A0 n0 c0, .slice D0 m0 e0] 28
  have lga := ba.lt
  have lgo := bo.lt
  replace ba := ba.below hbV
  replace bo := bo.below hbV
  have HF := (Fr.refl w ga gop).below hbV
  have HB := HB0
  obtain ⟨y0, y1⟩ := ba.cells2
  go_enter Tryz.func91, Tryz.ntmps91
  go_wp2_with fail
  clear hV hsV hbV y0 y1
  refine wp_loop_rounds 3 ?_
  rw [rounds_succ]
  go_upto_block 2 with fail
  go_cut [5] from 11 (fun t5 wx => ∃ (A5 : Option Addr) (n5 c5 : Nat), t5 = .slice A5 n5 c5 ∧ EnS w0 L (.slice A5 n5 c5) (dropAt q c) ∧ Box wx gop #[.int .i64 (oz + takeSum q c)] 3 ∧ Box wx ga #[.slice A8 c.length cp8, .slice A9 d.length cp9] 131 ∧ Box wx w.heap.size #[.bool s0, .slice A0 n0 c0, .slice D0 m0 e0] 28 ∧ Fr w wx ga gop)
  case first =>
    go_wp2_with fail
    go_loopw [5] (fun t5 wx => ∃ (A5 : Option Addr) (n5 c5 : Nat) (r : List (Rat × Int)) (oo : Int), t5 = .slice A5 n5 c5 ∧ EnS w0 L (.slice A5 n5 c5) r ∧ Unit1 r ∧ dropAt q r = dropAt q c ∧ oo + takeSum q r = oz + takeSum q c ∧ r.length ≤ c.length ∧ -100000 - (c.length : Int) + r.length ≤ oo ∧ oo ≤ 100000 + (c.length : Int) - r.length ∧ Box wx gop #[.int .i64 oo] 3 ∧ Box wx ga #[.slice A8 c.length cp8, .slice A9 d.length cp9] 131 ∧ Box wx w.heap.size #[.bool s0, .slice A0 n0 c0, .slice D0 m0 e0] 28 ∧ Fr w wx ga gop) (fun t5 _ => lenV t5)
    case atStart => exact ⟨_, _, _, c, oz, rfl, hc, hUc, rfl, rfl, Nat.le_refl _, by omega, by omega, bo, ba, b3, HF⟩
    case round =>
      clear bo ba b3 HF
      obtain ⟨A5, n5, c5, r, oo, rfl, hr, hu, hd, hs, hl, hb1, hb2, bo, ba, b3, HF⟩ := hrel
      have HD := Lib.hid hd
      have HSU := Lib.hid hs
      clear hd hs
      have H0 := HF.under HB (by omega) hga hgo
      obtain ⟨A6, c6, e6, hc6, hm6⟩ := hr.form
      injection e6 with e61 e62 e63
      subst e61 e63
      unfold maxLen at hm6
      rcases r with _ | ⟨e, r⟩
      · rw [List.length_nil] at e62
        subst e62
        go_wp2_with fail
        have hD := drawn_below wr
        replace HF := HF.below hD
        replace b3 := b3.below hD
        replace bo := bo.below hD
        replace ba := ba.below hD
        replace H0 := H0.trans (hD.mono H0.size)
        clear hD
        refine wp_region_noPanic ?_
        refine wp_region_held_drew (S := (fun V => V.cell? ⟨w.heap.size, 0, none⟩ = some (.bool s0) ∧ V.cell? ⟨w.heap.size, 1, none⟩ = some (.slice A0 n0 c0) ∧ V.cell? ⟨w.heap.size, 2, none⟩ = some (.slice D0 m0 e0))) (by kernel_rfl) (b3.all3) (fun hHeld => ?_)
        generalize wr.drew = v300 at H0 hHeld HF b3 bo ba ⊢
        refine todo [0, 1, 2, 3] ?_
        iterate 4
          refine tkT ?_ rfl (by kernel_rfl) (fun _ _ _ h => h) (by rfl) (by assumption) ?_ ?_
          rotate_left
          · (intro w hSw; (try dsimp only at hSw); go_simp; (try with_reducible rfl))
          (try simp only [getElem_toArray, getElem_cons_succ, getElem_cons_zero, Act.put, setIfInBounds_toArray, set_cons_zero, set_cons_succ])
        refine tdone ?_
        refine todo [4, 8, 5, 6, 7, 9, 10] ?_
        iterate 7
          refine tkS rfl (by kernel_rfl) (fun _ _ _ h => h) (by rfl) (by assumption) ?_
          (try simp only [getElem_toArray, getElem_cons_succ, getElem_cons_zero, Act.put, setIfInBounds_toArray, set_cons_zero, set_cons_succ])
        refine tdone ?_
        refine tk 11 ?_ rfl (by kernel_rfl) (fun _ _ _ h => h) (by rfl) (by assumption) ?_ ?_
        rotate_left
        · (intro w hSw; (try dsimp only at hSw); go_simp; (try with_reducible rfl))
        (try simp only [getElem_toArray, getElem_cons_succ, getElem_cons_zero, Act.put, setIfInBounds_toArray, set_cons_zero, set_cons_succ])
        refine wpAnyH_done (by kernel_rfl) ?_ _
        refine NoPanic.normal ?_
        go_wp2_with fail
        go_meet
        have h9 := HSU.out
        have h8 : oo = oz + takeSum q c := by rw [← h9]; exact (Int.add_zero oo).symm
        exact ⟨_, _, _, rfl, by rw [← HD.out]; exact hr, by rw [← h8]; exact bo, ba, b3, HF⟩
      · obtain ⟨g, o, s1, A1, n1, c1, D1, m1, e1, rfl, p0, p1, p2, p3, ke⟩ := (hr.below H0).head
        have hn5 : 0 < n5 := by rw [e62]; exact Nat.succ_pos _
        have qn : decide ((0 : Int) < (n5 : Int)) = true := decide_eq_true (by omega)
        have kq := hq.below H0
        go_wp2_with fail
        by_cases he : e.1 = q
        · have HK := Lib.hid (rsg_eq he)
          have he2 := hu e (List.mem_cons_self ..)
          have hwr : IntKind.i64.wrap (oo + e.2) = oo + e.2 := IntWalk.i64_in _ (by simp only [List.length_cons] at hl hb1 hb2; omega)
          have hD := drawn_below wr
          replace HF := HF.below hD
          replace ke := ke.below hD
          replace p0 := p0.below hD
          replace p1 := p1.below hD
          replace p2 := p2.below hD
          replace p3 := p3.below hD
          replace kq := kq.below hD
          replace b3 := b3.below hD
          replace bo := bo.below hD
          replace ba := ba.below hD
          replace H0 := H0.trans (hD.mono H0.size)
          clear hD
          refine wp_region_noPanic ?_
          refine wp_region_held_drew (S := (fun V => V.cell? ⟨w.heap.size, 0, none⟩ = some (.bool s0) ∧ V.cell? ⟨w.heap.size, 1, none⟩ = some (.slice A0 n0 c0) ∧ V.cell? ⟨w.heap.size, 2, none⟩ = some (.slice D0 m0 e0) ∧ V.cell? ⟨g, o, none⟩ = some (.bool s1) ∧ V.cell? ⟨g, o + 1, none⟩ = some (.slice A1 n1 c1) ∧ V.cell? ⟨g, o + 2, none⟩ = some (.slice D1 m1 e1) ∧ V.cell? ⟨g, o + 3, none⟩ = some (.int .i64 e.2))) (by kernel_rfl) ⟨b3.cell 0 _ rfl, b3.cell 1 _ rfl, b3.cell 2 _ rfl, p0.eq, p1.eq, p2.eq, p3.eq⟩ (fun hHeld => ?_)
          generalize wr.drew = v300 at H0 hHeld HF ke p0 p1 p2 p3 kq b3 bo ba ⊢
          refine todo [0, 1, 2, 3, 4, 8, 5, 6, 7] ?_
          iterate 9
            refine tkT ?_ rfl (by kernel_rfl) (fun _ _ _ h => h) (by rfl) (by assumption) ?_ ?_
            rotate_left
            · (intro w hSw; (try dsimp only at hSw); go_simp; (try with_reducible rfl))
            (try simp only [getElem_toArray, getElem_cons_succ, getElem_cons_zero, Act.put, setIfInBounds_toArray, set_cons_zero, set_cons_succ])
          refine tdone ?_
          refine rd1 9 (by kernel_rfl) rfl (fun K hK => ?_)
          go_simp
          go_at_call 48
          refine (rcmp_v ke.rq kq.rq hL hL HK.out).mono ?_
          rintro e w301 ⟨rfl, hb⟩
          replace HF := HF.below hb
          replace ke := ke.below hb
          replace p0 := p0.below hb
          replace p1 := p1.below hb
          replace p2 := p2.below hb
          replace p3 := p3.below hb
          replace kq := kq.below hb
          replace b3 := b3.below hb
          replace bo := bo.below hb
          replace ba := ba.below hb
          replace H0 := H0.trans (hb.mono H0.size)
          clear hb
          go_wp2_with fail
          refine hK.out _ _ ⟨b3.cell 0 _ rfl, b3.cell 1 _ rfl, b3.cell 2 _ rfl, p0.eq, p1.eq, p2.eq, p3.eq⟩ (fun hHeld => ?_)
          clear hK K
          (try simp only [getElem_toArray, getElem_cons_succ, getElem_cons_zero, Act.put, setIfInBounds_toArray, set_cons_zero, set_cons_succ])
          refine todo [10, 11] ?_
          iterate 2
            refine tkT ?_ rfl (by kernel_rfl) (fun _ _ _ h => h) (by rfl) (by assumption) ?_ ?_
            rotate_left
            · (intro w hSw; (try dsimp only at hSw); go_simp; (try with_reducible rfl))
            (try simp only [getElem_toArray, getElem_cons_succ, getElem_cons_zero, Act.put, setIfInBounds_toArray, set_cons_zero, set_cons_succ])
          refine tdone ?_
          refine wpAnyH_done (by kernel_rfl) ?_ _
          refine NoPanic.normal ?_
          go_wp2_with fail
          have HF2 := HF
          have HF3 : Fr w w301 ga gop := HF
          clear HF HF2
          have hD := drawn_below w301
          replace ke := ke.below hD
          replace p3 := p3.below hD
          replace kq := kq.below hD
          replace b3 := b3.below hD
          replace bo := bo.below hD
          replace ba := ba.below hD
          replace H0 := H0.trans (hD.mono H0.size)
          have HF4 := HF3.below hD
          clear hD
          refine wp_region_noPanic ?_
          refine wp_region_F (S := (fun V => V.cell? ⟨w.heap.size, 0, none⟩ = some (.bool s0) ∧ V.cell? ⟨w.heap.size, 1, none⟩ = some (.slice A0 n0 c0) ∧ V.cell? ⟨w.heap.size, 2, none⟩ = some (.slice D0 m0 e0) ∧ V.cell? ⟨gop, 0, none⟩ = some (.int .i64 oo) ∧ V.cell? ⟨g, o + 3, none⟩ = some (.int .i64 e.2))) (F := (fun j => j == 6)) (by kernel_rfl) ?_
          generalize w301.drew = v302 at H0 HF4 ke p3 kq b3 bo ba ⊢
          refine wpAnyF_take (i := 0) (v := ?_) (fun j => j == 5 || j == 6) rfl (by kernel_rfl) (by kernel_rfl) (by kernel_rfl) (by kernel_rfl) (fun j hj => by have h6 : 7 ≤ j := hj; simp; omega) (fun _ _ _ h => h) (Or.inl ⟨by rfl, ?_⟩) ⟨b3.cell 0 _ rfl, b3.cell 1 _ rfl, b3.cell 2 _ rfl, bo.cell 0 _ rfl, p3.eq⟩ ?_
          rotate_left
          · (intro w hSw; (try dsimp only at hSw); go_simp; (try with_reducible rfl))
          (try simp only [getElem_toArray, getElem_cons_zero, Act.put, setIfInBounds_toArray, set_cons_zero, set_cons_succ])
          refine wpAnyF_take (i := 1) (v := ?_) (fun j => j == 2 || j == 3 || j == 4 || j == 5 || j == 6) rfl (by kernel_rfl) (by kernel_rfl) (by kernel_rfl) (by kernel_rfl) (fun j hj => by have h6 : 7 ≤ j := hj; simp; omega) (fun _ _ _ h => h) (Or.inl ⟨by rfl, ?_⟩) ⟨b3.cell 0 _ rfl, b3.cell 1 _ rfl, b3.cell 2 _ rfl, bo.cell 0 _ rfl, p3.eq⟩ ?_
          rotate_left
          · (intro w hSw; (try dsimp only at hSw); go_simp; (try with_reducible rfl))
          (try simp only [getElem_toArray, getElem_cons_succ, getElem_cons_zero, Act.put, setIfInBounds_toArray, set_cons_zero, set_cons_succ])
          refine wpAnyF_take (i := 2) (v := ?_) (fun j => j == 3 || j == 4 || j == 5 || j == 6) rfl (by kernel_rfl) (by kernel_rfl) (by kernel_rfl) (by kernel_rfl) (fun j hj => by have h6 : 7 ≤ j := hj; simp; omega) (fun _ _ _ h => h) (Or.inl ⟨by rfl, ?_⟩) ⟨b3.cell 0 _ rfl, b3.cell 1 _ rfl, b3.cell 2 _ rfl, bo.cell 0 _ rfl, p3.eq⟩ ?_
          rotate_left
          · (intro w hSw; (try dsimp only at hSw); go_simp; (try with_reducible rfl))
          (try simp only [getElem_toArray, getElem_cons_succ, getElem_cons_zero, Act.put, setIfInBounds_toArray, set_cons_zero, set_cons_succ])
          refine wpAnyF_take (i := 3) (v := ?_) (fun j => j == 4 || j == 5 || j == 6) rfl (by kernel_rfl) (by kernel_rfl) (by kernel_rfl) (by kernel_rfl) (fun j hj => by have h6 : 7 ≤ j := hj; simp; omega) (fun _ _ _ h => h) (Or.inl ⟨by rfl, ?_⟩) ⟨b3.cell 0 _ rfl, b3.cell 1 _ rfl, b3.cell 2 _ rfl, bo.cell 0 _ rfl, p3.eq⟩ ?_
          rotate_left
          · (intro w hSw; (try dsimp only at hSw); go_simp; (try with_reducible rfl))
          (try simp only [getElem_toArray, getElem_cons_succ, getElem_cons_zero, Act.put, setIfInBounds_toArray, set_cons_zero, set_cons_succ])
          refine wpAnyF_take (i := 4) (v := ?_) (fun j => j == 5 || j == 6) rfl (by kernel_rfl) (by kernel_rfl) (by kernel_rfl) (by kernel_rfl) (fun j hj => by have h6 : 7 ≤ j := hj; simp; omega) (fun _ _ _ h => h) (Or.inl ⟨by rfl, ?_⟩) ⟨b3.cell 0 _ rfl, b3.cell 1 _ rfl, b3.cell 2 _ rfl, bo.cell 0 _ rfl, p3.eq⟩ ?_
          rotate_left
          · (intro w hSw; (try dsimp only at hSw); go_simp; (try with_reducible rfl))
          (try simp only [getElem_toArray, getElem_cons_succ, getElem_cons_zero, Act.put, setIfInBounds_toArray, set_cons_zero, set_cons_succ])
          refine wpAnyF_take (i := 5) (v := ?_) (fun j => j == 6) rfl (by kernel_rfl) (by kernel_rfl) (by kernel_rfl) (by kernel_rfl) (fun j hj => by have h6 : 7 ≤ j := hj; simp; omega) (fun _ _ _ h => h) (Or.inl ⟨by rfl, ?_⟩) ⟨b3.cell 0 _ rfl, b3.cell 1 _ rfl, b3.cell 2 _ rfl, bo.cell 0 _ rfl, p3.eq⟩ ?_
          rotate_left
          · (intro w hSw; (try dsimp only at hSw); go_simp; (try with_reducible rfl))
          (try simp only [getElem_toArray, getElem_cons_succ, getElem_cons_zero, Act.put, setIfInBounds_toArray, set_cons_zero, set_cons_succ])
          have cbo0 := bo.cell 0 _ rfl
          have ybo0 := bo.frozen 0
          refine wpAnyF_last (i := 6) (by kernel_rfl) rfl rfl (fun K hK => ?_)
          go_simp
          refine hK.out _ _ ?_
          clear hK K
          (try simp only [getElem_toArray, getElem_cons_succ, getElem_cons_zero, Act.put, setIfInBounds_toArray, set_cons_zero, set_cons_succ])
          clear cbo0 ybo0
          have hg := only_store1 v302 (gop) (.int .i64 (oo + e.2))
          have hB := bo.stored1 (.int .i64 (oo + e.2))
          generalize hX : (v302.setCell ⟨gop, 0, none⟩ (.int .i64 (oo + e.2))) = X303 at hg hB ⊢
          clear hX
          replace ke := ke.kept bo (by simp [notInt]) hg
          replace kq := kq.kept bo (by simp [notInt]) hg
          replace b3 := b3.other hg (by omega)
          replace ba := ba.other hg (by omega)
          replace bo := hB
          replace H0 := below_only H0 hg hgo H0.size
          have HF := HF4.snd hg
          clear hg hB
          refine wpAny_done (by kernel_rfl) ?_ _
          refine NoPanic.normal ?_
          go_wp2_with fail
          by_cases hc1 : c5 = 1
          · have hc7 : r.length + 1 ≤ c5 := hc6
            have ht := EnS.tail (A := some ⟨g, o, none⟩) hr (fun h9 => absurd (List.eq_nil_of_length_eq_zero (by omega)) h9)
            rw [e62, hc1] at ht
            have HT := Lib.hid ht
            clear ht
            have h9 := HSU.out
            have h9' : takeSum q (e :: r) = e.2 + takeSum q r := by rw [takeSum, if_pos he]
            have h9'' : dropAt q (e :: r) = dropAt q r := by rw [dropAt, if_pos he]
            have HE := Lib.hid (show oo + e.2 + takeSum q r = oz + takeSum q c by rw [← h9, h9']; omega)
            have HE2 := Lib.hid (show dropAt q r = dropAt q c by rw [← HD.out, h9''])
            clear h9 h9' h9''
            have hl' : r.length + 1 ≤ c.length := hl
            have hb1' : -100000 - (c.length : Int) + ((r.length : Int) + 1) ≤ oo := by simpa using hb1
            have hb2' : oo ≤ 100000 + (c.length : Int) - ((r.length : Int) + 1) := by simpa using hb2
            go_wp2_with fail
            go_roundw
            case rel => exact ⟨_, _, _, ⟨rfl, rfl, rfl⟩, r, HT.out, (fun x hx => hu x (List.mem_cons_of_mem _ hx)), HE2.out, oo + e.2, HE.out, by omega, by omega, by omega, bo⟩
            case measure => first | (simp [lenV]; done) | (simp [lenV]; omega)
          · have hc7 : r.length + 1 ≤ c5 := hc6
            have ht := EnS.tail (A := some ⟨g, o + 4, none⟩) hr (fun _ => rfl)
            rw [e62] at ht
            have HT := Lib.hid ht
            clear ht
            have h9 := HSU.out
            have h9' : takeSum q (e :: r) = e.2 + takeSum q r := by rw [takeSum, if_pos he]
            have h9'' : dropAt q (e :: r) = dropAt q r := by rw [dropAt, if_pos he]
            have HE := Lib.hid (show oo + e.2 + takeSum q r = oz + takeSum q c by rw [← h9, h9']; omega)
            have HE2 := Lib.hid (show dropAt q r = dropAt q c by rw [← HD.out, h9''])
            clear h9 h9' h9''
            have hl' : r.length + 1 ≤ c.length := hl
            have hb1' : -100000 - (c.length : Int) + ((r.length : Int) + 1) ≤ oo := by simpa using hb1
            have hb2' : oo ≤ 100000 + (c.length : Int) - ((r.length : Int) + 1) := by simpa using hb2
            go_wp2_with fail
            go_roundw
            case rel => exact ⟨_, _, _, ⟨rfl, rfl, rfl⟩, r, HT.out, (fun x hx => hu x (List.mem_cons_of_mem _ hx)), HE2.out, oo + e.2, HE.out, by omega, by omega, by omega, bo⟩
            case measure => first | (simp [lenV]; done) | (simp [lenV]; omega)
        · obtain ⟨kk, hkk⟩ : ∃ k, rsg (e.1 - q) = k := ⟨_, rfl⟩
          have HK := Lib.hid hkk
          have qk : ((kk : Int) == 0) = false := by rw [← hkk, beq_eq_false_iff_ne]; intro h9; exact he (by have := rsg_zero_iff.1 h9; grind)
          clear hkk
          have hD := drawn_below wr
          replace HF := HF.below hD
          replace ke := ke.below hD
          replace p0 := p0.below hD
          replace p1 := p1.below hD
          replace p2 := p2.below hD
          replace p3 := p3.below hD
          replace kq := kq.below hD
          replace b3 := b3.below hD
          replace bo := bo.below hD
          replace ba := ba.below hD
          replace H0 := H0.trans (hD.mono H0.size)
          clear hD
          refine wp_region_noPanic ?_
          refine wp_region_held_drew (S := (fun V => V.cell? ⟨w.heap.size, 0, none⟩ = some (.bool s0) ∧ V.cell? ⟨w.heap.size, 1, none⟩ = some (.slice A0 n0 c0) ∧ V.cell? ⟨w.heap.size, 2, none⟩ = some (.slice D0 m0 e0) ∧ V.cell? ⟨g, o, none⟩ = some (.bool s1) ∧ V.cell? ⟨g, o + 1, none⟩ = some (.slice A1 n1 c1) ∧ V.cell? ⟨g, o + 2, none⟩ = some (.slice D1 m1 e1) ∧ V.cell? ⟨g, o + 3, none⟩ = some (.int .i64 e.2))) (by kernel_rfl) ⟨b3.cell 0 _ rfl, b3.cell 1 _ rfl, b3.cell 2 _ rfl, p0.eq, p1.eq, p2.eq, p3.eq⟩ (fun hHeld => ?_)
          generalize wr.drew = v300 at H0 hHeld HF ke p0 p1 p2 p3 kq b3 bo ba ⊢
          refine todo [0, 1, 2, 3, 4, 8, 5, 6, 7] ?_
          iterate 9
            refine tkT ?_ rfl (by kernel_rfl) (fun _ _ _ h => h) (by rfl) (by assumption) ?_ ?_
            rotate_left
            · (intro w hSw; (try dsimp only at hSw); go_simp; (try with_reducible rfl))
            (try simp only [getElem_toArray, getElem_cons_succ, getElem_cons_zero, Act.put, setIfInBounds_toArray, set_cons_zero, set_cons_succ])
          refine tdone ?_
          refine rd1 9 (by kernel_rfl) rfl (fun K hK => ?_)
          go_simp
          go_at_call 48
          refine (rcmp_v ke.rq kq.rq hL hL HK.out).mono ?_
          rintro e w301 ⟨rfl, hb⟩
          replace HF := HF.below hb
          replace ke := ke.below hb
          replace p0 := p0.below hb
          replace p1 := p1.below hb
          replace p2 := p2.below hb
          replace p3 := p3.below hb
          replace kq := kq.below hb
          replace b3 := b3.below hb
          replace bo := bo.below hb
          replace ba := ba.below hb
          replace H0 := H0.trans (hb.mono H0.size)
          clear hb
          go_wp2_with fail
          refine hK.out _ _ ⟨b3.cell 0 _ rfl, b3.cell 1 _ rfl, b3.cell 2 _ rfl, p0.eq, p1.eq, p2.eq, p3.eq⟩ (fun hHeld => ?_)
          clear hK K
          (try simp only [getElem_toArray, getElem_cons_succ, getElem_cons_zero, Act.put, setIfInBounds_toArray, set_cons_zero, set_cons_succ])
          refine todo [10, 11] ?_
          iterate 2
            refine tkT ?_ rfl (by kernel_rfl) (fun _ _ _ h => h) (by rfl) (by assumption) ?_ ?_
            rotate_left
            · (intro w hSw; (try dsimp only at hSw); go_simp; (try with_reducible rfl))
            (try simp only [getElem_toArray, getElem_cons_succ, getElem_cons_zero, Act.put, setIfInBounds_toArray, set_cons_zero, set_cons_succ])
          refine tdone ?_
          refine wpAnyH_done (by kernel_rfl) ?_ _
          refine NoPanic.normal ?_
          go_wp2_with fail
          go_meet
          have h7 : dropAt q (e :: r) = e :: r := by unfold dropAt; rw [if_neg he]
          have h9 := HSU.out
          rw [takeSum_self h7] at h9
          have h8 : oo = oz + takeSum q c := by omega
          exact ⟨_, _, _, rfl, by have h5 := hr; rw [e62] at h5; rw [← HD.out, h7]; exact h5, by rw [← h8]; exact bo, ba, b3, HF⟩
  case rest =>
    obtain ⟨A5, n5, c5, rfl, hSc2, bo2, ba2, b32, HF2⟩ := hcut
    clear bo ba b3 HF
    have z0 := ba2.cell 0 _ rfl
    have zf := ba2.frozen 0
    go_wp2_with fail
    clear z0 zf
    have hg : World.grownBy _ _ (some ga) := only_setCell wc ⟨ga, 0, none⟩ (.slice A5 n5 c5)
    have hB : Box _ _ #[.slice A5 n5 c5, .slice A9 d.length cp9] _ := ba2.step 0 (.slice A5 n5 c5)
    generalize hX : wc.setCell ⟨ga, 0, none⟩ (.slice A5 n5 c5) = X1 at hg hB ⊢
    clear hX
    have hsb := b32.lt
    have bo := bo2.other hg (Ne.symm hne)
    have b3 := b32.other hg (by omega)
    have HF := HF2.fst hg
    have ba := hB
    clear hg hB hsb ba2 bo2 b32 HF2
    obtain ⟨B5, k5, d5, hB5⟩ : ∃ a b c, (a, b, c) = (A5, n5, c5) := ⟨_, _, _, rfl⟩
    injection hB5 with h1 h2
    injection h2 with h2 h3
    subst h1 h2 h3
    rw [rounds_succ]
    go_upto_block 2 with fail
    go_cut [5] from 11 (fun t5 wx => ∃ (A5 : Option Addr) (n5 c5 : Nat), t5 = .slice A5 n5 c5 ∧ EnS w0 L (.slice A5 n5 c5) (dropAt q d) ∧ Box wx gop #[.int .i64 ((oz + takeSum q c) + takeSum q d)] 3 ∧ Box wx ga #[.slice B5 k5 d5, .slice A9 d.length cp9] 131 ∧ Box wx w.heap.size #[.bool s0, .slice A0 n0 c0, .slice D0 m0 e0] 28 ∧ Fr w wx ga gop)
    case first =>
      go_wp2_with fail
      go_loopw [5] (fun t5 wx => ∃ (A5 : Option Addr) (n5 c5 : Nat) (r : List (Rat × Int)) (oo : Int), t5 = .slice A5 n5 c5 ∧ EnS w0 L (.slice A5 n5 c5) r ∧ Unit1 r ∧ dropAt q r = dropAt q d ∧ oo + takeSum q r = (oz + takeSum q c) + takeSum q d ∧ r.length ≤ d.length ∧ -100000 - (d.length : Int) + r.length ≤ oo ∧ oo ≤ 100000 + (d.length : Int) - r.length ∧ Box wx gop #[.int .i64 oo] 3 ∧ Box wx ga #[.slice B5 k5 d5, .slice A9 d.length cp9] 131 ∧ Box wx w.heap.size #[.bool s0, .slice A0 n0 c0, .slice D0 m0 e0] 28 ∧ Fr w wx ga gop) (fun t5 _ => lenV t5)
      case atStart => exact ⟨_, _, _, d, (oz + takeSum q c), rfl, hd, hUd, rfl, rfl, Nat.le_refl _, by omega, by omega, bo, ba, b3, HF⟩
      case round =>
        clear bo ba b3 HF
        obtain ⟨A5, n5, c5, r, oo, rfl, hr, hu, hd, hs, hl, hb1, hb2, bo, ba, b3, HF⟩ := hrel
        have HD := Lib.hid hd
        have HSU := Lib.hid hs
        clear hd hs
        have H0 := HF.under HB (by omega) hga hgo
        obtain ⟨A6, c6, e6, hc6, hm6⟩ := hr.form
        injection e6 with e61 e62 e63
        subst e61 e63
        unfold maxLen at hm6
        rcases r with _ | ⟨e, r⟩
        · rw [List.length_nil] at e62
          subst e62
          go_wp2_with fail
          have hD := drawn_below wr
          replace HF := HF.below hD
          replace b3 := b3.below hD
          replace bo := bo.below hD
          replace ba := ba.below hD
          replace H0 := H0.trans (hD.mono H0.size)
          clear hD
          refine wp_region_noPanic ?_
          refine wp_region_held_drew (S := (fun V => V.cell? ⟨w.heap.size, 0, none⟩ = some (.bool s0) ∧ V.cell? ⟨w.heap.size, 1, none⟩ = some (.slice A0 n0 c0) ∧ V.cell? ⟨w.heap.size, 2, none⟩ = some (.slice D0 m0 e0))) (by kernel_rfl) (b3.all3) (fun hHeld => ?_)
          generalize wr.drew = v300 at H0 hHeld HF b3 bo ba ⊢
          refine todo [0, 1, 2, 3] ?_
          iterate 4
            refine tkT ?_ rfl (by kernel_rfl) (fun _ _ _ h => h) (by rfl) (by assumption) ?_ ?_
            rotate_left
            · (intro w hSw; (try dsimp only at hSw); go_simp; (try with_reducible rfl))
            (try simp only [getElem_toArray, getElem_cons_succ, getElem_cons_zero, Act.put, setIfInBounds_toArray, set_cons_zero, set_cons_succ])
          refine tdone ?_
          refine todo [4, 8, 5, 6, 7, 9, 10] ?_
          iterate 7
            refine tkS rfl (by kernel_rfl) (fun _ _ _ h => h) (by rfl) (by assumption) ?_
            (try simp only [getElem_toArray, getElem_cons_succ, getElem_cons_zero, Act.put, setIfInBounds_toArray, set_cons_zero, set_cons_succ])
          refine tdone ?_
          refine tk 11 ?_ rfl (by kernel_rfl) (fun _ _ _ h => h) (by rfl) (by assumption) ?_ ?_
          rotate_left
          · (intro w hSw; (try dsimp only at hSw); go_simp; (try with_reducible rfl))
          (try simp only [getElem_toArray, getElem_cons_succ, getElem_cons_zero, Act.put, setIfInBounds_toArray, set_cons_zero, set_cons_succ])
          refine wpAnyH_done (by kernel_rfl) ?_ _
          refine NoPanic.normal ?_
          go_wp2_with fail
          go_meet
          have h9 := HSU.out
          have h8 : oo = (oz + takeSum q c) + takeSum q d := by rw [← h9]; exact (Int.add_zero oo).symm
          exact ⟨_, _, _, rfl, by rw [← HD.out]; exact hr, by rw [← h8]; exact bo, ba, b3, HF⟩
        · obtain ⟨g, o, s1, A1, n1, c1, D1, m1, e1, rfl, p0, p1, p2, p3, ke⟩ := (hr.below H0).head
          have hn5 : 0 < n5 := by rw [e62]; exact Nat.succ_pos _
          have qn : decide ((0 : Int) < (n5 : Int)) = true := decide_eq_true (by omega)
          have kq := hq.below H0
          go_wp2_with fail
          by_cases he : e.1 = q
          · have HK := Lib.hid (rsg_eq he)
            have he2 := hu e (List.mem_cons_self ..)
            have hwr : IntKind.i64.wrap (oo + e.2) = oo + e.2 := IntWalk.i64_in _ (by simp only [List.length_cons] at hl hb1 hb2; omega)
            have hD := drawn_below wr
            replace HF := HF.below hD
            replace ke := ke.below hD
            replace p0 := p0.below hD
            replace p1 := p1.below hD
            replace p2 := p2.below hD
            replace p3 := p3.below hD
            replace kq := kq.below hD
            replace b3 := b3.below hD
            replace bo := bo.below hD
            replace ba := ba.below hD
            replace H0 := H0.trans (hD.mono H0.size)
            clear hD
            refine wp_region_noPanic ?_
            refine wp_region_held_drew (S := (fun V => V.cell? ⟨w.heap.size, 0, none⟩ = some (.bool s0) ∧ V.cell? ⟨w.heap.size, 1, none⟩ = some (.slice A0 n0 c0) ∧ V.cell? ⟨w.heap.size, 2, none⟩ = some (.slice D0 m0 e0) ∧ V.cell? ⟨g, o, none⟩ = some (.bool s1) ∧ V.cell? ⟨g, o + 1, none⟩ = some (.slice A1 n1 c1) ∧ V.cell? ⟨g, o + 2, none⟩ = some (.slice D1 m1 e1) ∧ V.cell? ⟨g, o + 3, none⟩ = some (.int .i64 e.2))) (by kernel_rfl) ⟨b3.cell 0 _ rfl, b3.cell 1 _ rfl, b3.cell 2 _ rfl, p0.eq, p1.eq, p2.eq, p3.eq⟩ (fun hHeld => ?_)
            generalize wr.drew = v300 at H0 hHeld HF ke p0 p1 p2 p3 kq b3 bo ba ⊢
            refine todo [0, 1, 2, 3, 4, 8, 5, 6, 7] ?_
            iterate 9
              refine tkT ?_ rfl (by kernel_rfl) (fun _ _ _ h => h) (by rfl) (by assumption) ?_ ?_
              rotate_left
              · (intro w hSw; (try dsimp only at hSw); go_simp; (try with_reducible rfl))
              (try simp only [getElem_toArray, getElem_cons_succ, getElem_cons_zero, Act.put, setIfInBounds_toArray, set_cons_zero, set_cons_succ])
            refine tdone ?_
            refine rd1 9 (by kernel_rfl) rfl (fun K hK => ?_)
            go_simp
            go_at_call 48
            refine (rcmp_v ke.rq kq.rq hL hL HK.out).mono ?_
            rintro e w301 ⟨rfl, hb⟩
            replace HF := HF.below hb
            replace ke := ke.below hb
            replace p0 := p0.below hb
            replace p1 := p1.below hb
            replace p2 := p2.below hb
            replace p3 := p3.below hb
            replace kq := kq.below hb
            replace b3 := b3.below hb
            replace bo := bo.below hb
            replace ba := ba.below hb
            replace H0 := H0.trans (hb.mono H0.size)
            clear hb
            go_wp2_with fail
            refine hK.out _ _ ⟨b3.cell 0 _ rfl, b3.cell 1 _ rfl, b3.cell 2 _ rfl, p0.eq, p1.eq, p2.eq, p3.eq⟩ (fun hHeld => ?_)
            clear hK K
            (try simp only [getElem_toArray, getElem_cons_succ, getElem_cons_zero, Act.put, setIfInBounds_toArray, set_cons_zero, set_cons_succ])
            refine todo [10, 11] ?_
            iterate 2
              refine tkT ?_ rfl (by kernel_rfl) (fun _ _ _ h => h) (by rfl) (by assumption) ?_ ?_
              rotate_left
              · (intro w hSw; (try dsimp only at hSw); go_simp; (try with_reducible rfl))
              (try simp only [getElem_toArray, getElem_cons_succ, getElem_cons_zero, Act.put, setIfInBounds_toArray, set_cons_zero, set_cons_succ])
            refine tdone ?_
            refine wpAnyH_done (by kernel_rfl) ?_ _
            refine NoPanic.normal ?_
            go_wp2_with fail
            have HF2 := HF
            have HF3 : Fr w w301 ga gop := HF
            clear HF HF2
            have hD := drawn_below w301
            replace ke := ke.below hD
            replace p3 := p3.below hD
            replace kq := kq.below hD
            replace b3 := b3.below hD
            replace bo := bo.below hD
            replace ba := ba.below hD
            replace H0 := H0.trans (hD.mono H0.size)
            have HF4 := HF3.below hD
            clear hD
            refine wp_region_noPanic ?_
            refine wp_region_F (S := (fun V => V.cell? ⟨w.heap.size, 0, none⟩ = some (.bool s0) ∧ V.cell? ⟨w.heap.size, 1, none⟩ = some (.slice A0 n0 c0) ∧ V.cell? ⟨w.heap.size, 2, none⟩ = some (.slice D0 m0 e0) ∧ V.cell? ⟨gop, 0, none⟩ = some (.int .i64 oo) ∧ V.cell? ⟨g, o + 3, none⟩ = some (.int .i64 e.2))) (F := (fun j => j == 6)) (by kernel_rfl) ?_
            generalize w301.drew = v302 at H0 HF4 ke p3 kq b3 bo ba ⊢
            refine wpAnyF_take (i := 0) (v := ?_) (fun j => j == 5 || j == 6) rfl (by kernel_rfl) (by kernel_rfl) (by kernel_rfl) (by kernel_rfl) (fun j hj => by have h6 : 7 ≤ j := hj; simp; omega) (fun _ _ _ h => h) (Or.inl ⟨by rfl, ?_⟩) ⟨b3.cell 0 _ rfl, b3.cell 1 _ rfl, b3.cell 2 _ rfl, bo.cell 0 _ rfl, p3.eq⟩ ?_
            rotate_left
            · (intro w hSw; (try dsimp only at hSw); go_simp; (try with_reducible rfl))
            (try simp only [getElem_toArray, getElem_cons_zero, Act.put, setIfInBounds_toArray, set_cons_zero, set_cons_succ])
            refine wpAnyF_take (i := 1) (v := ?_) (fun j => j == 2 || j == 3 || j == 4 || j == 5 || j == 6) rfl (by kernel_rfl) (by kernel_rfl) (by kernel_rfl) (by kernel_rfl) (fun j hj => by have h6 : 7 ≤ j := hj; simp; omega) (fun _ _ _ h => h) (Or.inl ⟨by rfl, ?_⟩) ⟨b3.cell 0 _ rfl, b3.cell 1 _ rfl, b3.cell 2 _ rfl, bo.cell 0 _ rfl, p3.eq⟩ ?_
            rotate_left
            · (intro w hSw; (try dsimp only at hSw); go_simp; (try with_reducible rfl))
            (try simp only [getElem_toArray, getElem_cons_succ, getElem_cons_zero, Act.put, setIfInBounds_toArray, set_cons_zero, set_cons_succ])
            refine wpAnyF_take (i := 2) (v := ?_) (fun j => j == 3 || j == 4 || j == 5 || j == 6) rfl (by kernel_rfl) (by kernel_rfl) (by kernel_rfl) (by kernel_rfl) (fun j hj => by have h6 : 7 ≤ j := hj; simp; omega) (fun _ _ _ h => h) (Or.inl ⟨by rfl, ?_⟩) ⟨b3.cell 0 _ rfl, b3.cell 1 _ rfl, b3.cell 2 _ rfl, bo.cell 0 _ rfl, p3.eq⟩ ?_
            rotate_left
            · (intro w hSw; (try dsimp only at hSw); go_simp; (try with_reducible rfl))
            (try simp only [getElem_toArray, getElem_cons_succ, getElem_cons_zero, Act.put, setIfInBounds_toArray, set_cons_zero, set_cons_succ])
            refine wpAnyF_take (i := 3) (v := ?_) (fun j => j == 4 || j == 5 || j == 6) rfl (by kernel_rfl) (by kernel_rfl) (by kernel_rfl) (by kernel_rfl) (fun j hj => by have h6 : 7 ≤ j := hj; simp; omega) (fun _ _ _ h => h) (Or.inl ⟨by rfl, ?_⟩) ⟨b3.cell 0 _ rfl, b3.cell 1 _ rfl, b3.cell 2 _ rfl, bo.cell 0 _ rfl, p3.eq⟩ ?_
            rotate_left
            · (intro w hSw; (try dsimp only at hSw); go_simp; (try with_reducible rfl))
            (try simp only [getElem_toArray, getElem_cons_succ, getElem_cons_zero, Act.put, setIfInBounds_toArray, set_cons_zero, set_cons_succ])
            refine wpAnyF_take (i := 4) (v := ?_) (fun j => j == 5 || j == 6) rfl (by kernel_rfl) (by kernel_rfl) (by kernel_rfl) (by kernel_rfl) (fun j hj => by have h6 : 7 ≤ j := hj; simp; omega) (fun _ _ _ h => h) (Or.inl ⟨by rfl, ?_⟩) ⟨b3.cell 0 _ rfl, b3.cell 1 _ rfl, b3.cell 2 _ rfl, bo.cell 0 _ rfl, p3.eq⟩ ?_
            rotate_left
            · (intro w hSw; (try dsimp only at hSw); go_simp; (try with_reducible rfl))
            (try simp only [getElem_toArray, getElem_cons_succ, getElem_cons_zero, Act.put, setIfInBounds_toArray, set_cons_zero, set_cons_succ])
            refine wpAnyF_take (i := 5) (v := ?_) (fun j => j == 6) rfl (by kernel_rfl) (by kernel_rfl) (by kernel_rfl) (by kernel_rfl) (fun j hj => by have h6 : 7 ≤ j := hj; simp; omega) (fun _ _ _ h => h) (Or.inl ⟨by rfl, ?_⟩) ⟨b3.cell 0 _ rfl, b3.cell 1 _ rfl, b3.cell 2 _ rfl, bo.cell 0 _ rfl, p3.eq⟩ ?_
            rotate_left
            · (intro w hSw; (try dsimp only at hSw); go_simp; (try with_reducible rfl))
            (try simp only [getElem_toArray, getElem_cons_succ, getElem_cons_zero, Act.put, setIfInBounds_toArray, set_cons_zero, set_cons_succ])
            have cbo0 := bo.cell 0 _ rfl
            have ybo0 := bo.frozen 0
            refine wpAnyF_last (i := 6) (by kernel_rfl) rfl rfl (fun K hK => ?_)
            go_simp
            refine hK.out _ _ ?_
            clear hK K
            (try simp only [getElem_toArray, getElem_cons_succ, getElem_cons_zero, Act.put, setIfInBounds_toArray, set_cons_zero, set_cons_succ])
            clear cbo0 ybo0
            have hg := only_store1 v302 (gop) (.int .i64 (oo + e.2))
            have hB := bo.stored1 (.int .i64 (oo + e.2))
            generalize hX : (v302.setCell ⟨gop, 0, none⟩ (.int .i64 (oo + e.2))) = X303 at hg hB ⊢
            clear hX
            replace ke := ke.kept bo (by simp [notInt]) hg
            replace kq := kq.kept bo (by simp [notInt]) hg
            replace b3 := b3.other hg (by omega)
            replace ba := ba.other hg (by omega)
            replace bo := hB
            replace H0 := below_only H0 hg hgo H0.size
            have HF := HF4.snd hg
            clear hg hB
            refine wpAny_done (by kernel_rfl) ?_ _
            refine NoPanic.normal ?_
            go_wp2_with fail
            by_cases hc1 : c5 = 1
            · have hc7 : r.length + 1 ≤ c5 := hc6
              have ht := EnS.tail (A := some ⟨g, o, none⟩) hr (fun h9 => absurd (List.eq_nil_of_length_eq_zero (by omega)) h9)
              rw [e62, hc1] at ht
              have HT := Lib.hid ht
              clear ht
              have h9 := HSU.out
              have h9' : takeSum q (e :: r) = e.2 + takeSum q r := by rw [takeSum, if_pos he]
              have h9'' : dropAt q (e :: r) = dropAt q r := by rw [dropAt, if_pos he]
              have HE := Lib.hid (show oo + e.2 + takeSum q r = (oz + takeSum q c) + takeSum q d by rw [← h9, h9']; omega)
              have HE2 := Lib.hid (show dropAt q r = dropAt q d by rw [← HD.out, h9''])
              clear h9 h9' h9''
              have hl' : r.length + 1 ≤ d.length := hl
              have hb1' : -100000 - (d.length : Int) + ((r.length : Int) + 1) ≤ oo := by simpa using hb1
              have hb2' : oo ≤ 100000 + (d.length : Int) - ((r.length : Int) + 1) := by simpa using hb2
              go_wp2_with fail
              go_roundw
              case rel => exact ⟨_, _, _, ⟨rfl, rfl, rfl⟩, r, HT.out, (fun x hx => hu x (List.mem_cons_of_mem _ hx)), HE2.out, oo + e.2, HE.out, by omega, by omega, by omega, bo⟩
              case measure => first | (simp [lenV]; done) | (simp [lenV]; omega)
            · have hc7 : r.length + 1 ≤ c5 := hc6
              have ht := EnS.tail (A := some ⟨g, o + 4, none⟩) hr (fun _ => rfl)
              rw [e62] at ht
              have HT := Lib.hid ht
              clear ht
              have h9 := HSU.out
              have h9' : takeSum q (e :: r) = e.2 + takeSum q r := by rw [takeSum, if_pos he]
              have h9'' : dropAt q (e :: r) = dropAt q r := by rw [dropAt, if_pos he]
              have HE := Lib.hid (show oo + e.2 + takeSum q r = (oz + takeSum q c) + takeSum q d by rw [← h9, h9']; omega)
              have HE2 := Lib.hid (show dropAt q r = dropAt q d by rw [← HD.out, h9''])
              clear h9 h9' h9''
              have hl' : r.length + 1 ≤ d.length := hl
              have hb1' : -100000 - (d.length : Int) + ((r.length : Int) + 1) ≤ oo := by simpa using hb1
              have hb2' : oo ≤ 100000 + (d.length : Int) - ((r.length : Int) + 1) := by simpa using hb2
              go_wp2_with fail
              go_roundw
              case rel => exact ⟨_, _, _, ⟨rfl, rfl, rfl⟩, r, HT.out, (fun x hx => hu x (List.mem_cons_of_mem _ hx)), HE2.out, oo + e.2, HE.out, by omega, by omega, by omega, bo⟩
              case measure => first | (simp [lenV]; done) | (simp [lenV]; omega)
          · obtain ⟨kk, hkk⟩ : ∃ k, rsg (e.1 - q) = k := ⟨_, rfl⟩
            have HK := Lib.hid hkk
            have qk : ((kk : Int) == 0) = false := by rw [← hkk, beq_eq_false_iff_ne]; intro h9; exact he (by have := rsg_zero_iff.1 h9; grind)
            clear hkk
            have hD := drawn_below wr
            replace HF := HF.below hD
            replace ke := ke.below hD
            replace p0 := p0.below hD
            replace p1 := p1.below hD
            replace p2 := p2.below hD
            replace p3 := p3.below hD
            replace kq := kq.below hD
            replace b3 := b3.below hD
            replace bo := bo.below hD
            replace ba := ba.below hD
            replace H0 := H0.trans (hD.mono H0.size)
            clear hD
            refine wp_region_noPanic ?_
            refine wp_region_held_drew (S := (fun V => V.cell? ⟨w.heap.size, 0, none⟩ = some (.bool s0) ∧ V.cell? ⟨w.heap.size, 1, none⟩ = some (.slice A0 n0 c0) ∧ V.cell? ⟨w.heap.size, 2, none⟩ = some (.slice D0 m0 e0) ∧ V.cell? ⟨g, o, none⟩ = some (.bool s1) ∧ V.cell? ⟨g, o + 1, none⟩ = some (.slice A1 n1 c1) ∧ V.cell? ⟨g, o + 2, none⟩ = some (.slice D1 m1 e1) ∧ V.cell? ⟨g, o + 3, none⟩ = some (.int .i64 e.2))) (by kernel_rfl) ⟨b3.cell 0 _ rfl, b3.cell 1 _ rfl, b3.cell 2 _ rfl, p0.eq, p1.eq, p2.eq, p3.eq⟩ (fun hHeld => ?_)
            generalize wr.drew = v300 at H0 hHeld HF ke p0 p1 p2 p3 kq b3 bo ba ⊢
            refine todo [0, 1, 2, 3, 4, 8, 5, 6, 7] ?_
            iterate 9
              refine tkT ?_ rfl (by kernel_rfl) (fun _ _ _ h => h) (by rfl) (by assumption) ?_ ?_
              rotate_left
              · (intro w hSw; (try dsimp only at hSw); go_simp; (try with_reducible rfl))
              (try simp only [getElem_toArray, getElem_cons_succ, getElem_cons_zero, Act.put, setIfInBounds_toArray, set_cons_zero, set_cons_succ])
            refine tdone ?_
            refine rd1 9 (by kernel_rfl) rfl (fun K hK => ?_)
            go_simp
            go_at_call 48
            refine (rcmp_v ke.rq kq.rq hL hL HK.out).mono ?_
            rintro e w301 ⟨rfl, hb⟩
            replace HF := HF.below hb
            replace ke := ke.below hb
            replace p0 := p0.below hb
            replace p1 := p1.below hb
            replace p2 := p2.below hb
            replace p3 := p3.below hb
            replace kq := kq.below hb
            replace b3 := b3.below hb
            replace bo := bo.below hb
            replace ba := ba.below hb
            replace H0 := H0.trans (hb.mono H0.size)
            clear hb
            go_wp2_with fail
            refine hK.out _ _ ⟨b3.cell 0 _ rfl, b3.cell 1 _ rfl, b3.cell 2 _ rfl, p0.eq, p1.eq, p2.eq, p3.eq⟩ (fun hHeld => ?_)
            clear hK K
            (try simp only [getElem_toArray, getElem_cons_succ, getElem_cons_zero, Act.put, setIfInBounds_toArray, set_cons_zero, set_cons_succ])
            refine todo [10, 11] ?_
            iterate 2
              refine tkT ?_ rfl (by kernel_rfl) (fun _ _ _ h => h) (by rfl) (by assumption) ?_ ?_
              rotate_left
              · (intro w hSw; (try dsimp only at hSw); go_simp; (try with_reducible rfl))
              (try simp only [getElem_toArray, getElem_cons_succ, getElem_cons_zero, Act.put, setIfInBounds_toArray, set_cons_zero, set_cons_succ])
            refine tdone ?_
            refine wpAnyH_done (by kernel_rfl) ?_ _
            refine NoPanic.normal ?_
            go_wp2_with fail
            go_meet
            have h7 : dropAt q (e :: r) = e :: r := by unfold dropAt; rw [if_neg he]
            have h9 := HSU.out
            rw [takeSum_self h7] at h9
            have h8 : oo = (oz + takeSum q c) + takeSum q d := by omega
            exact ⟨_, _, _, rfl, by have h5 := hr; rw [e62] at h5; rw [← HD.out, h7]; exact h5, by rw [← h8]; exact bo, ba, b3, HF⟩
    case rest =>
      obtain ⟨A5, n5, c5, rfl, hSd2, bo2, ba2, b32, HF2⟩ := hcut
      clear bo ba b3 HF
      have z0 := ba2.cell 1 _ rfl
      have zf := ba2.frozen 1
      go_wp2_with fail
      clear z0 zf
      have hg : World.grownBy _ _ (some ga) := only_setCell wc ⟨ga, 1, none⟩ (.slice A5 n5 c5)
      have hB : Box _ _ #[.slice B5 k5 d5, .slice A5 n5 c5] _ := ba2.step 1 (.slice A5 n5 c5)
      generalize hX : wc.setCell ⟨ga, 1, none⟩ (.slice A5 n5 c5) = X2 at hg hB ⊢
      clear hX
      have hsb := b32.lt
      have bo := bo2.other hg (Ne.symm hne)
      have b3 := b32.other hg (by omega)
      have HF := HF2.fst hg
      have ba := hB
      clear hg hB hsb ba2 bo2 b32 HF2
      rw [rounds_succ]
      go_wp2_with fail
      go_end0
      exact ⟨rfl, ⟨_, _, hSc2, hSd2, ba⟩, bo, HF⟩
end
end Go.Proofs.YtpgkkkodniiilaaGreatDoor
namespace Go.Proofs.YtpgkkkodniiilaaGreatDoor
open List (getElem_toArray getElem_cons_succ getElem_cons_zero setIfInBounds_toArray set_cons_zero set_cons_succ)
open Go.RowKit
section
variable {f0 h0 f1 h1 f2 h2 f3 h3 f4 h4 f5 h5 f6 h6 f7 h7 f8 h8 f9 h9 f10 h10 f11 h11 : Bool} {A0 A1 A2 A3 A5 A6 A7 A8 A9 D0 D1 D2 D3 D7 : Option Addr} {n0 n1 n2 n3 n5 n7 c0 c1 c2 c3 c5 c6 c7 m0 m1 m2 m3 m7 e0 e1 e2 e3 e4 e5 e6 e7 e8 e9 : Nat} {s0 s1 s2 s3 s4 s7 : Bool} {q0 q1 q2 q3 q4 q5 q6 q7 : Rat} {z0 z1 z2 z3 z4 z5 z6 z7 z8 z9 z10 z11 : Int} {L L0 L1 x y : Nat} {k : Int} {b : Bool} {w : World}
variable {o0 o1 o2 o3 : Option Rat} {l l' : List Sp}
section
variable {w' X : World} {B : Nat} {e : TypeId} {k : Nat} {v : Value} {css : List (List Value)}
/-- The cells css are those of the spans l. -/
def SpL (w : World) (L : Nat) (css : List (List Value)) (l : List Sp) : Prop := All2 (SpE w L) css l
theorem firm_spl (L : Nat) (css : List (List Value)) (l : List Sp) : Firm fun w => SpL w L css l := Firm.all2 (fun a b => firm_spe L a b) css l
theorem SpL.below (h : SpL w L css l) (hb : Below w.heap.size w w') : SpL w' L css l := (firm_spl L css l).below h hb
theorem SpL.own (h : SpL w L css l) (hc : CleanB w v) (hg : w.grownBy w' v.ownBlock) : SpL w' L css l := (firm_spl L css l).own h hc hg
theorem grown_on {r : Option Nat} (h : Below w.heap.size w X) (hg : X.grownBy w' r) : w.grownBy w' r :=
  ⟨hg.os.trans h.os, hg.tape.trans h.tape, hg.output.trans h.output, Nat.le_trans h.size hg.size, fun j hj hne => (hg.block j (Nat.lt_of_lt_of_le hj h.size) hne).trans (h.block j hj)⟩
theorem OwnE.setLast {g m c j : Nat} {cs : List Value} {u : Value} (h : OwnE w B e k (.slice (some ⟨g, 0, none⟩) m c) (css ++ [cs])) (hm : m = css.length + 1) (hu : notInt u = true) : OwnE (w.setCell ⟨g, css.length * k + j, none⟩ u) B e k (.slice (some ⟨g, 0, none⟩) m c) (css ++ [cs.set j u]) := by
  have hl : (css ++ [cs]).length = m := by rw [List.length_append, hm]; rfl
  have hk := h.1 cs (List.mem_append_right _ (List.mem_singleton.2 rfl))
  have hkc : css.flatten.length = css.length * k := by
    have : ∀ l : List (List Value), (∀ x ∈ l, x.length = k) → l.flatten.length = l.length * k := fun l => by
      induction l with
      | nil => intro _; simp
      | cons a l ih => intro ha; rw [List.flatten_cons, List.length_append, ih fun x hx => ha x (List.mem_cons_of_mem _ hx), ha a (List.mem_cons_self ..), List.length_cons, Nat.succ_mul]; omega
    exact this css fun x hx => h.1 x (List.mem_append_left _ hx)
  refine ⟨fun x hx => ?_, ?_, fun g' hg' => ?_⟩
  · rcases List.mem_append.1 hx with hx | hx
    · exact h.1 x (List.mem_append_left _ hx)
    · have := List.mem_singleton.1 hx; subst this; rw [List.length_set]; exact hk
  · have h1 := h.2.1
    rw [hl] at h1
    have h2 := h1.stored (css.length * k + j) u
    have e1 : (css ++ [cs.set j u]).length = m := by rw [List.length_append, hm]; rfl
    have e2 : (css ++ [cs.set j u]).flatten = (css ++ [cs]).flatten.set (css.length * k + j) u := by
      rw [List.flatten_append, List.flatten_append, List.set_append_right _ _ (by omega), hkc, Nat.add_sub_cancel_left]; simp
    rw [e1, e2]; exact h2.1
  · injection hg' with hg'
    subst hg'
    obtain ⟨cur, e', hb, hc⟩ := h.2.2 g rfl
    refine ⟨_, e', hb.step _ u, ?_⟩
    rw [Array.all_eq_true_iff_forall_mem] at hc ⊢
    intro x hx
    rcases Array.mem_or_eq_of_mem_setIfInBounds hx with hx | rfl
    · exact hc x hx
    · exact hu
theorem All2.last {α β : Type} {R : α → β → Prop} {l : List α} {m : List β} {b : β} (h : All2 R l (m ++ [b])) : ∃ l0 a, l = l0 ++ [a] ∧ All2 R l0 m ∧ R a b := by
  induction m generalizing l with
  | nil =>
    cases l with
    | nil => cases h
    | cons a l => cases l with
      | nil => exact ⟨[], a, rfl, trivial, h.1⟩
      | cons c l => cases h.2
  | cons c m ih =>
    cases l with
    | nil => cases h
    | cons a l =>
      obtain ⟨l0, a', rfl, h1, h2⟩ := ih h.2
      exact ⟨a :: l0, a', rfl, ⟨h.1, h1⟩, h2⟩
theorem OwnE.at8 {g m c : Nat} {x0 x1 x2 x3 x4 x5 x6 x7 : Value} (h : OwnE w B e 8 (.slice (some ⟨g, 0, none⟩) m c) (css ++ [[x0, x1, x2, x3, x4, x5, x6, x7]])) :
    w.cell? ⟨g, css.length * 8 + 3, none⟩ = some x3 ∧ w.cell? ⟨g, css.length * 8 + 3 + 1, none⟩ = some x4 ∧ w.cell? ⟨g, css.length * 8 + 3 + 2, none⟩ = some x5 ∧ w.cell? ⟨g, css.length * 8 + 7, none⟩ = some x7 ∧ ∀ j, w.frozen? ⟨g, j, none⟩ = false := by
  obtain ⟨_, A, c', e1, _, _, hr⟩ := h.read
  injection e1 with e1 e2 e3
  obtain ⟨g', o', e4, hcell⟩ := hr (by simp)
  rw [e4] at e1
  injection e1 with e1
  injection e1 with e5 e6
  subst e5 e6
  have hx : (css ++ [[x0, x1, x2, x3, x4, x5, x6, x7]])[css.length]? = some [x0, x1, x2, x3, x4, x5, x6, x7] := by simp
  have hz := fun j x hj => hcell css.length _ hx j x hj
  simp only [Nat.zero_add] at hz
  obtain ⟨cur, e', hb, _⟩ := h.2.2 g rfl
  exact ⟨hz 3 _ rfl, hz 4 _ rfl, hz 5 _ rfl, hz 7 _ rfl, fun j => hb.frozen j⟩
end
theorem elem_span : ElemT 22 32 8 := elemT Tryz.underlying22 (by decide) (by kernel_rfl)
theorem own_some {B m c : Nat} {e : TypeId} {k : Nat} {A : Option Addr} {css : List (List Value)} (h : OwnE w B e k (.slice A m c) css) (hm : 0 < m) : ∃ g, A = some ⟨g, 0, none⟩ := by
  rcases h.2.1.2 with ⟨h1, h2⟩ | ⟨g, cap, cur, h1, _⟩
  · injection h1 with _ h1; omega
  · injection h1 with h1; exact ⟨g, h1⟩
set_option maxRecDepth 100000 in
set_option maxHeartbeats 4000000 in
theorem toggle_close {B : Nat} {v : Value} {css : List (List Value)} {q : Rat} (hown : OwnE w B 32 8 v css) (hall : SpL w L css (l ++ [⟨o0, none⟩])) (hq : NQ w s0 (.slice A0 n0 c0) (.slice D0 m0 e0) q L) (hL2 : 2 ≤ L) (hL : L ≤ 100000) :
    Calls Tryz.prog 93 #[v, .agg #[.bool s0, .slice A0 n0 c0, .slice D0 m0 e0]] w fun e w' => ∃ v' css', e = .returned v' ∧ OwnE w' B 32 8 v' css' ∧ SpL w' L css' (l ++ [⟨o0, some q⟩]) ∧ w.grownBy w' v.ownBlock := by
  obtain ⟨css, cs, rfl, hall0, s2, A2, n2, c2, D2, m2, e2, s3, A3, n3, c3, D3, m3, e3, f1, h1, rfl, k0, k1⟩ := All2.last hall
  obtain ⟨rfl, rfl, -, -⟩ := k1.no rfl
  obtain ⟨A9, cp, e9, hc9, hm9⟩ := hown.form
  subst e9
  obtain ⟨m, hm⟩ : ∃ m, css.length = m := ⟨_, rfl⟩
  rw [show (css ++ [([.bool s2, .slice A2 n2 c2, .slice D2 m2 e2, .bool false, .slice A3 n3 c3, .slice D3 m3 e3, .bool f1, .bool true] : List Value)]).length = m + 1 by rw [List.length_append, hm]; rfl] at hown hc9 ⊢
  unfold maxLen at hm9
  obtain ⟨g, rfl⟩ : ∃ g, A9 = some ⟨g, 0, none⟩ := own_some hown (Nat.succ_pos _)
  go_enter Tryz.func93, Tryz.ntmps93
  go_wp2_with fail
  obtain ⟨W0, hW, b3, hbW, hszW0⟩ := boxes1 w #[.bool s0, .slice A0 n0 c0, .slice D0 m0 e0] 28
  rw [hW]
  clear hW
  replace hq := hq.below hbW
  have H0 := hbW
  clear hbW
  obtain ⟨cb30, cb31, cb32⟩ := b3.cells3
  go_wp2_with fail
  clear cb30 cb31 cb32
  refine (rnorm_v hq.rq (by omega)).mono ?_
  rintro e w1 ⟨s7, A7, n7, c7, D7, m7, e7, rfl, hN, hb⟩
  replace hq := hq.below hb
  replace b3 := b3.below hb
  replace H0 := H0.trans (hb.mono H0.size)
  clear hb
  clear hq
  obtain ⟨cb30, yb30, cb31, yb31, cb32, yb32⟩ := b3.cf3
  go_upto_region 2 with fail
  clear cb30 yb30 cb31 yb31 cb32 yb32
  obtain ⟨cb30, yb30, cb31, yb31, cb32, yb32⟩ := b3.cf3
  clear cb30 yb30 cb31 yb31 cb32 yb32
  have hg := only_store3 w1 (w.heap.size) (.bool s7) (.slice A7 n7 c7) (.slice D7 m7 e7)
  have hB := b3.stored3 (.bool s7) (.slice A7 n7 c7) (.slice D7 m7 e7)
  generalize hX : (((w1.setCell ⟨w.heap.size, 0, none⟩ (.bool s7)).setCell ⟨w.heap.size, 1, none⟩ (.slice A7 n7 c7)).setCell ⟨w.heap.size, 2, none⟩ (.slice D7 m7 e7)) = X2 at hg hB ⊢
  clear hX
  replace hN := hN.kept b3 (by simp [notInt]) hg
  replace b3 := hB
  replace H0 := below_only H0 hg (by omega) H0.size
  clear hg hB
  replace hN := hN.more (show max L 2 ≤ L by omega)
  have hw := hown.below H0
  obtain ⟨cb30, cb31, cb32⟩ := b3.cells3
  have hw0 : IntKind.i64.wrap (m : Int) = m := IntWalk.i64_in _ (by omega)
  obtain ⟨y3, y4, y5, y7, yf⟩ := hw.at8
  rw [hm] at y3 y4 y5 y7
  have yf3 := yf (m * 8 + 3)
  have yf4 := yf (m * 8 + 3 + 1)
  have yf5 := yf (m * 8 + 3 + 2)
  have yf7 := yf (m * 8 + 7)
  clear yf
  go_wp2_with fail
  clear cb30 cb31 cb32
  clear y3 y4 y5 y7 yf3 yf4 yf5 yf7
  have s1 := hw.setLast (j := 3) (u := .bool s7) (by rw [hm]) rfl
  have s2 := s1.setLast (j := 4) (u := .slice A7 n7 c7) (by rw [hm]) rfl
  have s3 := s2.setLast (j := 5) (u := .slice D7 m7 e7) (by rw [hm]) rfl
  have s4 := s3.setLast (j := 7) (u := .bool false) (by rw [hm]) rfl
  rw [hm] at s4
  simp only [List.set_cons_zero, List.set_cons_succ] at s4
  clear s1 s2 s3
  have hg : World.grownBy X2 ((((X2.setCell ⟨g, m * 8 + 3, none⟩ (.bool s7)).setCell ⟨g, m * 8 + 3 + 1, none⟩ (.slice A7 n7 c7)).setCell ⟨g, m * 8 + 3 + 2, none⟩ (.slice D7 m7 e7)).setCell ⟨g, m * 8 + 7, none⟩ (.bool false)) (some g) := only_trans (only_trans (only_trans (only_setCell _ _ _) (only_setCell _ _ _)) (only_setCell _ _ _)) (only_setCell _ _ _)
  have hS0 := SpL.own (v := .slice (some ⟨g, 0, none⟩) (m + 1) cp) (show SpL _ L css l from All2.mono hall0 fun a b r => (firm_spe L a b).below r H0) hw.2.2 hg
  have hE0 := (firm_end L _ _ _ _ _).own (v := .slice (some ⟨g, 0, none⟩) (m + 1) cp) (k0.below H0) hw.2.2 hg
  have hN2 := (firm_nq _ _ _ _ _).own (v := .slice (some ⟨g, 0, none⟩) (m + 1) cp) hN hw.2.2 hg
  generalize hX : ((((X2.setCell ⟨g, m * 8 + 3, none⟩ (.bool s7)).setCell ⟨g, m * 8 + 3 + 1, none⟩ (.slice A7 n7 c7)).setCell ⟨g, m * 8 + 3 + 2, none⟩ (.slice D7 m7 e7)).setCell ⟨g, m * 8 + 7, none⟩ (.bool false)) = X9 at hg s4 hS0 hE0 hN2 ⊢
  clear hX
  go_ret
  refine ⟨_, _, rfl, s4, All2.snoc hS0 ⟨_, _, _, _, _, _, _, _, _, _, _, _, _, _, _, _, rfl, hE0, .inl ⟨rfl, _, rfl, hN2⟩⟩, grown_on H0 hg⟩
set_option maxRecDepth 100000 in
set_option maxHeartbeats 4000000 in
theorem toggle_open1 {B : Nat} {v : Value} {css : List (List Value)} {q : Rat} (hown : OwnE w B 32 8 v css) (hall : SpL w L css (l ++ [⟨o0, some q1⟩])) (hq : NQ w s0 (.slice A0 n0 c0) (.slice D0 m0 e0) q L) (hB : B ≤ w.heap.size) (hL2 : 2 ≤ L) (hL : L ≤ 100000) (hln : css.length ≤ 99999) :
    Calls Tryz.prog 93 #[v, .agg #[.bool s0, .slice A0 n0 c0, .slice D0 m0 e0]] w fun e w' => ∃ v' css', e = .returned v' ∧ OwnE w' B 32 8 v' css' ∧ SpL w' L css' ((l ++ [⟨o0, some q1⟩]) ++ [⟨some q, none⟩]) ∧ w.grownBy w' v.ownBlock := by
  obtain ⟨css, cs, rfl, hall0, s2, A2, n2, c2, D2, m2, e2, s3, A3, n3, c3, D3, m3, e3, f1, h1, rfl, k0, k1⟩ := All2.last hall
  obtain ⟨rfl, k1'⟩ := k1.yes rfl
  clear k1'
  obtain ⟨A9, cp, e9, hc9, hm9⟩ := hown.form
  subst e9
  obtain ⟨m, hm⟩ : ∃ m, css.length = m := ⟨_, rfl⟩
  rw [show (css ++ [([.bool s2, .slice A2 n2 c2, .slice D2 m2 e2, .bool s3, .slice A3 n3 c3, .slice D3 m3 e3, .bool f1, .bool false] : List Value)]).length = m + 1 by rw [List.length_append, hm]; rfl] at hown hc9 ⊢
  unfold maxLen at hm9
  obtain ⟨g, rfl⟩ : ∃ g, A9 = some ⟨g, 0, none⟩ := own_some hown (Nat.succ_pos _)
  go_enter Tryz.func93, Tryz.ntmps93
  go_wp2_with fail
  obtain ⟨W0, hW, b3, hbW, hszW0⟩ := boxes1 w #[.bool s0, .slice A0 n0 c0, .slice D0 m0 e0] 28
  rw [hW]
  clear hW
  replace hq := hq.below hbW
  have H0 := hbW
  clear hbW
  obtain ⟨cb30, cb31, cb32⟩ := b3.cells3
  go_wp2_with fail
  clear cb30 cb31 cb32
  refine (rnorm_v hq.rq (by omega)).mono ?_
  rintro e w1 ⟨s7, A7, n7, c7, D7, m7, e7, rfl, hN, hb⟩
  replace hq := hq.below hb
  replace b3 := b3.below hb
  replace H0 := H0.trans (hb.mono H0.size)
  clear hb
  clear hq
  obtain ⟨cb30, yb30, cb31, yb31, cb32, yb32⟩ := b3.cf3
  go_upto_region 2 with fail
  clear cb30 yb30 cb31 yb31 cb32 yb32
  obtain ⟨cb30, yb30, cb31, yb31, cb32, yb32⟩ := b3.cf3
  clear cb30 yb30 cb31 yb31 cb32 yb32
  have hg := only_store3 w1 (w.heap.size) (.bool s7) (.slice A7 n7 c7) (.slice D7 m7 e7)
  have hB := b3.stored3 (.bool s7) (.slice A7 n7 c7) (.slice D7 m7 e7)
  generalize hX : (((w1.setCell ⟨w.heap.size, 0, none⟩ (.bool s7)).setCell ⟨w.heap.size, 1, none⟩ (.slice A7 n7 c7)).setCell ⟨w.heap.size, 2, none⟩ (.slice D7 m7 e7)) = X2 at hg hB ⊢
  clear hX
  replace hN := hN.kept b3 (by simp [notInt]) hg
  replace b3 := hB
  replace H0 := below_only H0 hg (by omega) H0.size
  clear hg hB
  replace hN := hN.more (show max L 2 ≤ L by omega)
  have hw := hown.below H0
  obtain ⟨cb30, cb31, cb32⟩ := b3.cells3
  have hw0 : IntKind.i64.wrap (m : Int) = m := IntWalk.i64_in _ (by omega)
  obtain ⟨y3, y4, y5, y7, yf⟩ := hw.at8
  rw [hm] at y3 y4 y5 y7
  have yf3 := yf (m * 8 + 3)
  have yf4 := yf (m * 8 + 3 + 1)
  have yf5 := yf (m * 8 + 3 + 2)
  have yf7 := yf (m * 8 + 7)
  clear yf
  have hq1 : ([.bool s7, .slice A7 n7 c7, .slice D7 m7 e7, .bool false, .slice none 0 0, .slice none 0 0, .bool false, .bool true] : List Value).all (fun u => u.oneCell' && notInt u) = true := by simp [notInt, Value.oneCell']
  have lB : B ≤ X2.heap.size := by have := H0.size; omega
  have ln : ((css ++ [[.bool s2, .slice A2 n2 c2, .slice D2 m2 e2, .bool s3, .slice A3 n3 c3, .slice D3 m3 e3, .bool f1, .bool false]]) : List (List Value)).length ≤ 100000 := by exact Nat.le_trans hln (by decide)
  go_wp2_with (at_builtin; refine wpList_append_row (v := .slice (some ⟨g, 0, none⟩) (m + 1) cp) (css := (css ++ [[.bool s2, .slice A2 n2 c2, .slice D2 m2 e2, .bool s3, .slice A3 n3 c3, .slice D3 m3 e3, .bool f1, .bool false]])) rfl _ _ rfl elem_span B [.bool s7, .slice A7 n7 c7, .slice D7 m7 e7, .bool false, .slice none 0 0, .slice none 0 0, .bool false, .bool true] rfl hw rfl rfl hq1 ln lB ?_; intro v1 w1 hown1 hg1)
  clear cb30 cb31 cb32
  have hS0 := SpL.own (v := .slice (some ⟨g, 0, none⟩) (m + 1) cp) (SpL.below hall H0) hw.2.2 hg1
  have hN2 := (firm_nq _ _ _ _ _).own (v := .slice (some ⟨g, 0, none⟩) (m + 1) cp) hN hw.2.2 hg1
  go_ret
  refine ⟨_, _, rfl, hown1, All2.snoc hS0 ⟨_, _, _, _, _, _, _, _, _, _, _, _, _, _, _, _, rfl, .inl ⟨rfl, _, rfl, hN2⟩, .inr ⟨rfl, rfl, rfl, raw_nil _ _, raw_nil _ _⟩⟩, grown_on H0 hg1⟩
set_option maxRecDepth 100000 in
set_option maxHeartbeats 4000000 in
theorem toggle_open0 {B : Nat} {v : Value} {css : List (List Value)} {q : Rat} (hown : OwnE w B 32 8 v css) (hall : SpL w L css []) (hq : NQ w s0 (.slice A0 n0 c0) (.slice D0 m0 e0) q L) (hB : B ≤ w.heap.size) (hL2 : 2 ≤ L) (hL : L ≤ 100000) :
    Calls Tryz.prog 93 #[v, .agg #[.bool s0, .slice A0 n0 c0, .slice D0 m0 e0]] w fun e w' => ∃ v' css', e = .returned v' ∧ OwnE w' B 32 8 v' css' ∧ SpL w' L css' ([] ++ [⟨some q, none⟩]) ∧ w.grownBy w' v.ownBlock := by
  obtain rfl : css = [] := by cases css with | nil => rfl | cons a b => cases hall
  obtain ⟨A9, cp, e9, hc9, hm9⟩ := hown.form
  subst e9
  simp only [List.length_nil] at hown ⊢
  go_enter Tryz.func93, Tryz.ntmps93
  go_wp2_with fail
  obtain ⟨W0, hW, b3, hbW, hszW0⟩ := boxes1 w #[.bool s0, .slice A0 n0 c0, .slice D0 m0 e0] 28
  rw [hW]
  clear hW
  replace hq := hq.below hbW
  have H0 := hbW
  clear hbW
  obtain ⟨cb30, cb31, cb32⟩ := b3.cells3
  go_wp2_with fail
  clear cb30 cb31 cb32
  refine (rnorm_v hq.rq (by omega)).mono ?_
  rintro e w1 ⟨s7, A7, n7, c7, D7, m7, e7, rfl, hN, hb⟩
  replace hq := hq.below hb
  replace b3 := b3.below hb
  replace H0 := H0.trans (hb.mono H0.size)
  clear hb
  clear hq
  obtain ⟨cb30, yb30, cb31, yb31, cb32, yb32⟩ := b3.cf3
  go_upto_region 2 with fail
  clear cb30 yb30 cb31 yb31 cb32 yb32
  obtain ⟨cb30, yb30, cb31, yb31, cb32, yb32⟩ := b3.cf3
  clear cb30 yb30 cb31 yb31 cb32 yb32
  have hg := only_store3 w1 (w.heap.size) (.bool s7) (.slice A7 n7 c7) (.slice D7 m7 e7)
  have hB := b3.stored3 (.bool s7) (.slice A7 n7 c7) (.slice D7 m7 e7)
  generalize hX : (((w1.setCell ⟨w.heap.size, 0, none⟩ (.bool s7)).setCell ⟨w.heap.size, 1, none⟩ (.slice A7 n7 c7)).setCell ⟨w.heap.size, 2, none⟩ (.slice D7 m7 e7)) = X2 at hg hB ⊢
  clear hX
  replace hN := hN.kept b3 (by simp [notInt]) hg
  replace b3 := hB
  replace H0 := below_only H0 hg (by omega) H0.size
  clear hg hB
  replace hN := hN.more (show max L 2 ≤ L by omega)
  have hw := hown.below H0
  obtain ⟨cb30, cb31, cb32⟩ := b3.cells3
  have hw0 : IntKind.i64.wrap (-1) = -1 := by decide +kernel
  have hq1 : ([.bool s7, .slice A7 n7 c7, .slice D7 m7 e7, .bool false, .slice none 0 0, .slice none 0 0, .bool false, .bool true] : List Value).all (fun u => u.oneCell' && notInt u) = true := by simp [notInt, Value.oneCell']
  have lB : B ≤ X2.heap.size := by have := H0.size; omega
  have ln : ([] : List (List Value)).length ≤ 100000 := by simp
  go_wp2_with (at_builtin; refine wpList_append_row (v := .slice A9 0 cp) (css := []) rfl _ _ rfl elem_span B [.bool s7, .slice A7 n7 c7, .slice D7 m7 e7, .bool false, .slice none 0 0, .slice none 0 0, .bool false, .bool true] rfl hw rfl rfl hq1 ln lB ?_; intro v1 w1 hown1 hg1)
  clear cb30 cb31 cb32
  have hS0 := SpL.own (v := .slice A9 0 cp) (SpL.below hall H0) hw.2.2 hg1
  have hN2 := (firm_nq _ _ _ _ _).own (v := .slice A9 0 cp) hN hw.2.2 hg1
  go_ret
  refine ⟨_, _, rfl, hown1, All2.snoc hS0 ⟨_, _, _, _, _, _, _, _, _, _, _, _, _, _, _, _, rfl, .inl ⟨rfl, _, rfl, hN2⟩, .inr ⟨rfl, rfl, rfl, raw_nil _ _, raw_nil _ _⟩⟩, grown_on H0 hg1⟩
end
end Go.Proofs.YtpgkkkodniiilaaGreatDoor
