/-
  total and Length of bounded sets.
-/
import Derived.Test.YtpgkkkodniiilaaGreatDoorWSq
import Derived.Test.YtpgkkkodniiilaaGreatDoorWSL
import Derived.Test.YtpgkkkodniiilaaGreatDoorWWW
import Derived.IntWalk
import Derived.Deep.Cut
namespace Go.Proofs.YtpgkkkodniiilaaGreatDoor
open List (getElem_toArray getElem_cons_succ getElem_cons_zero setIfInBounds_toArray set_cons_zero set_cons_succ)
open Go.RowKit
section
variable {f0 h0 f1 h1 f2 h2 f3 h3 f4 h4 f5 h5 f6 h6 f7 h7 f8 h8 f9 h9 f10 h10 f11 h11 : Bool} {A0 A1 A2 A3 D0 D1 D2 D3 : Option Addr} {n0 n1 n2 n3 c0 c1 c2 c3 c4 c5 c6 c7 m0 m1 m2 m3 e0 e1 e2 e3 : Nat} {s0 s1 s2 s3 : Bool} {q0 q1 q2 q3 q4 q5 q6 q7 : Rat} {z0 z1 z2 z3 z4 z5 z6 z7 z8 z9 z10 z11 : Int} {L L0 L1 x y : Nat} {k : Int} {w : World}
variable {o0 o1 o2 o3 : Option Rat} {l l' : List Sp}
theorem sumS_one {s : Sp} {a b : Rat} (h : s = ⟨some a, some b⟩) : sumS [s] = b - a := by subst h; show (b - a) + 0 = b - a; grind
theorem BothS.take {k : Nat} (h : BothS l) : BothS (l.take k) := fun s hs => h s (List.mem_of_mem_take hs)
theorem BothS.drop {k : Nat} (h : BothS l) : BothS (l.drop k) := fun s hs => h s (List.mem_of_mem_drop hs)
theorem SpS.addr {A : Option Addr} {n c : Nat} (h : SpS w L (.slice A n c) l) (hp : 0 < l.length) : ∃ g o, A = some ⟨g, o, none⟩ := by
  obtain ⟨css, ⟨_, A', c', e1, _, _, h5⟩, ha⟩ := h
  injection e1 with e1
  subst e1
  obtain ⟨g, o, e2, _⟩ := h5 (by have := All2.len ha; rintro rfl; simp at this; omega)
  exact ⟨g, o, e2⟩
theorem CellF.oth {w' : World} {p : Addr} {v : Value} {g : Nat} (h : CellF w p v) (hg : w.grownBy w' (some g)) (hne : p.block ≠ g) : CellF w' p v :=
  (World.cell?_of_block (a := p) (hg.block p.block (World.block_lt_of_cell? w _ h) (fun he => by injection he with he; exact hne he))).trans h
theorem SpS.low {g o n c k : Nat} (h : SpS w L (.slice (some ⟨g, o, none⟩) n c) l) (hk : k ≤ n) : SpS w L (.slice (some ⟨g, o, none⟩) k c) (l.take k) := by
  obtain ⟨css, h1, h2⟩ := h
  have h3 := h1.flat
  have h4 := h1.part (i := 0) (j := k) (m := c) (Nat.zero_le _) hk (by omega) (Nat.le_refl _)
  exact ⟨css.take k, by simpa [Addr.add_lit] using h4, All2.take h2 k⟩
theorem SpS.high {g o n c k : Nat} (h : SpS w L (.slice (some ⟨g, o, none⟩) n c) l) (hk : k ≤ n) : SpS w L (.slice (some ⟨g, o + k * 8, none⟩) (n - k) (c - k)) (l.drop k) := by
  obtain ⟨css, h1, h2⟩ := h
  have h3 := h1.flat
  have h4 := h1.part (i := k) (j := n) (m := c) hk (Nat.le_refl _) (by omega) (Nat.le_refl _)
  have h5 : css.take n = css := List.take_of_length_le (by omega)
  rw [h5] at h4
  exact ⟨css.drop k, by simpa [Addr.add_lit] using h4, All2.drop h2 k⟩
/-- The bound on the length of the sum of n spans. -/
def bndT (n L : Nat) : Nat := n * (2 * max L 2 + 3) - 1
theorem bnd_add (a b c L : Nat) (ha : 1 ≤ a) (hb : 1 ≤ b) (hc : a + b = c) : max (bndT a L) 2 + max (bndT b L) 2 + 1 ≤ bndT c L := by
  subst hc
  unfold bndT
  have h1 : 2 * max L 2 + 3 ≤ a * (2 * max L 2 + 3) := Nat.le_mul_of_pos_left _ ha
  have h2 : 2 * max L 2 + 3 ≤ b * (2 * max L 2 + 3) := Nat.le_mul_of_pos_left _ hb
  rw [Nat.add_mul]
  have h3 : 2 ≤ max L 2 := Nat.le_max_right _ _
  generalize a * (2 * max L 2 + 3) = x at *
  generalize b * (2 * max L 2 + 3) = y at *
  omega
theorem bnd_le (a L : Nat) {n : Nat} (h : n ≤ 64 ∧ a ≤ n ∧ L ≤ 100) : bndT a L ≤ 13000 := by
  unfold bndT
  have h1 : a * (2 * max L 2 + 3) ≤ 64 * 203 := Nat.mul_le_mul (by omega) (by omega)
  omega
set_option maxRecDepth 100000 in
set_option maxHeartbeats 4000000 in
theorem total_nil {v : Value} (hS : SpS w L v []) :
    Calls Tryz.prog 81 #[v] w fun e w' => ∃ s1 A1 n1 c1 D1 m1 e1, e = .returned (.agg #[.bool s1, .slice A1 n1 c1, .slice D1 m1 e1]) ∧ NQ w' s1 (.slice A1 n1 c1) (.slice D1 m1 e1) ((0 : Int) : Rat) 2 ∧ Below w.heap.size w w' := by
  obtain ⟨A, c, e1, hc1, hc2⟩ := hS.form
  subst e1
  clear hS
  simp only [List.length_nil]
  go_enter Tryz.func81, Tryz.ntmps81
  go_upto_region 1 with fail
  obtain ⟨W0, hW, b2, hbW, hszW0⟩ := boxes1 w #[.bool false, .slice none 0 0, .slice none 0 0] 28
  rw [hW]
  clear hW
  have H0 := hbW
  clear hbW
  go_wp2_with fail
  refine (rfromint_v 0 (by decide) (by decide) _).mono ?_
  rintro e w1 ⟨s1, A1, n1, c1, D1, m1, e1, rfl, k1, hb⟩
  replace b2 := b2.below hb
  replace H0 := H0.trans (hb.mono H0.size)
  clear hb
  obtain ⟨cb20, yb20, cb21, yb21, cb22, yb22⟩ := b2.cf3
  go_wp2_with fail
  clear cb20 yb20 cb21 yb21 cb22 yb22
  have hg := only_store3 w1 (w.heap.size) (.bool s1) (.slice A1 n1 c1) (.slice D1 m1 e1)
  have hB := b2.stored3 (.bool s1) (.slice A1 n1 c1) (.slice D1 m1 e1)
  generalize hX : (((w1.setCell ⟨w.heap.size, 0, none⟩ (.bool s1)).setCell ⟨w.heap.size, 1, none⟩ (.slice A1 n1 c1)).setCell ⟨w.heap.size, 2, none⟩ (.slice D1 m1 e1)) = X2 at hg hB ⊢
  clear hX
  replace k1 := k1.kept b2 (by simp [notInt]) hg
  replace b2 := hB
  replace H0 := below_only H0 hg (by omega) H0.size
  clear hg hB
  refine bodyPost_ret (ret_rat rfl rfl b2) rfl ?_
  exact ⟨s1, A1, n1, c1, D1, m1, e1, rfl, k1, H0⟩
set_option maxRecDepth 100000 in
set_option maxHeartbeats 4000000 in
theorem total_one {v : Value} {a b : Rat} (hS : SpS w L v [⟨some a, some b⟩]) (hL : L ≤ 100) :
    Calls Tryz.prog 81 #[v] w fun e w' => ∃ s1 A1 n1 c1 D1 m1 e1, e = .returned (.agg #[.bool s1, .slice A1 n1 c1, .slice D1 m1 e1]) ∧ NQ w' s1 (.slice A1 n1 c1) (.slice D1 m1 e1) (b - a) (2 * max L 2 + 2) ∧ Below w.heap.size w w' := by
  obtain ⟨A, c, e1, hc1, hc2⟩ := hS.form
  subst e1
  unfold maxLen at hc2
  obtain ⟨g, o, s0, A0, n0, c0, D0, m0, e0, s1, A1, n1, c1, D1, m1, e1, f0, h0, rfl, cc0, cc1, cc2, cc3, cc4, cc5, cc6, cc7, y0, y1⟩ := hS.elem (i := 0) rfl
  obtain ⟨rfl, k0⟩ := y0.yes rfl
  obtain ⟨rfl, k1⟩ := y1.yes rfl
  clear hS y0 y1
  simp only [Nat.zero_mul, Nat.add_zero] at cc0 cc1 cc2 cc3 cc4 cc5 cc6 cc7
  have p0 : CellF w _ _ := cc0
  have p1 : CellF w _ _ := cc1
  have p2 : CellF w _ _ := cc2
  have p3 : CellF w _ _ := cc3
  have p4 : CellF w _ _ := cc4
  have p5 : CellF w _ _ := cc5
  have hgl : g < w.heap.size := World.block_lt_of_cell? w _ cc0
  clear cc0 cc1 cc2 cc3 cc4 cc5 cc6 cc7
  simp only [List.length_cons, List.length_nil, Nat.zero_add] at hc1 ⊢
  go_enter Tryz.func81, Tryz.ntmps81
  go_upto_region 1 with fail
  obtain ⟨W0, hW, b2, hbW, hszW0⟩ := boxes1 w #[.bool false, .slice none 0 0, .slice none 0 0] 28
  rw [hW]
  clear hW
  replace k0 := k0.below hbW
  replace k1 := k1.below hbW
  replace p0 := p0.below hbW
  replace p1 := p1.below hbW
  replace p2 := p2.below hbW
  replace p3 := p3.below hbW
  replace p4 := p4.below hbW
  replace p5 := p5.below hbW
  have H0 := hbW
  clear hbW
  go_wp2_with fail
  have hD := drawn_below W0
  replace k0 := k0.below hD
  replace k1 := k1.below hD
  replace p0 := p0.below hD
  replace p1 := p1.below hD
  replace p2 := p2.below hD
  replace p3 := p3.below hD
  replace p4 := p4.below hD
  replace p5 := p5.below hD
  replace b2 := b2.below hD
  replace H0 := H0.trans (hD.mono H0.size)
  clear hD
  refine wp_region_noPanic ?_
  refine wp_region_held_drew (S := (fun V => V.cell? ⟨g, o, none⟩ = some (.bool s0) ∧ V.cell? ⟨g, o + 1, none⟩ = some (.slice A0 n0 c0) ∧ V.cell? ⟨g, o + 2, none⟩ = some (.slice D0 m0 e0) ∧ V.cell? ⟨g, o + 3, none⟩ = some (.bool s1) ∧ V.cell? ⟨g, o + 3 + 1, none⟩ = some (.slice A1 n1 c1) ∧ V.cell? ⟨g, o + 3 + 2, none⟩ = some (.slice D1 m1 e1))) (by kernel_rfl) ⟨p0.eq, p1.eq, p2.eq, p3.eq, p4.eq, p5.eq⟩ (fun hHeld => ?_)
  generalize W0.drew = v1 at H0 hHeld k0 k1 p0 p1 p2 p3 p4 p5 b2 ⊢
  refine todo [0, 4, 1, 5, 2, 6, 3, 7] ?_
  iterate 8
    refine tkT ?_ rfl (by kernel_rfl) (fun _ _ _ h => h) (by rfl) (by assumption) ?_ ?_
    rotate_left
    · (intro w hSw; (try dsimp only at hSw); go_simp; (try with_reducible rfl))
    (try simp only [getElem_toArray, getElem_cons_succ, getElem_cons_zero, Act.put, setIfInBounds_toArray, set_cons_zero, set_cons_succ])
  refine tdone ?_
  refine rd1 8 (by kernel_rfl) rfl (fun K hK => ?_)
  go_simp
  go_at_call 106
  refine (rsub_v k1.rq k0.rq (by omega) (by omega)).mono ?_
  rintro e w2 ⟨s2, A2, n2, c2, D2, m2, e2, rfl, k2, hb⟩
  replace k0 := k0.below hb
  replace k1 := k1.below hb
  replace p0 := p0.below hb
  replace p1 := p1.below hb
  replace p2 := p2.below hb
  replace p3 := p3.below hb
  replace p4 := p4.below hb
  replace p5 := p5.below hb
  replace b2 := b2.below hb
  replace H0 := H0.trans (hb.mono H0.size)
  clear hb
  clear k0
  clear k1
  go_wp2_with fail
  refine hK.out _ _ ⟨p0.eq, p1.eq, p2.eq, p3.eq, p4.eq, p5.eq⟩ (fun hHeld => ?_)
  clear hK K
  (try simp only [getElem_toArray, getElem_cons_succ, getElem_cons_zero, Act.put, setIfInBounds_toArray, set_cons_zero, set_cons_succ])
  obtain ⟨cb20, yb20, cb21, yb21, cb22, yb22⟩ := b2.cf3
  refine rd1 9 (by kernel_rfl) rfl (fun K hK => ?_)
  go_simp
  clear cb20 yb20 cb21 yb21 cb22 yb22
  have hg := only_store3 w2 (w.heap.size) (.bool s2) (.slice A2 n2 c2) (.slice D2 m2 e2)
  have hB := b2.stored3 (.bool s2) (.slice A2 n2 c2) (.slice D2 m2 e2)
  generalize hX : (((w2.setCell ⟨w.heap.size, 0, none⟩ (.bool s2)).setCell ⟨w.heap.size, 1, none⟩ (.slice A2 n2 c2)).setCell ⟨w.heap.size, 2, none⟩ (.slice D2 m2 e2)) = X3 at hg hB ⊢
  clear hX
  replace k2 := k2.kept b2 (by simp [notInt]) hg
  replace p0 := p0.oth hg (by show g ≠ _; omega)
  replace p1 := p1.oth hg (by show g ≠ _; omega)
  replace p2 := p2.oth hg (by show g ≠ _; omega)
  replace p3 := p3.oth hg (by show g ≠ _; omega)
  replace p4 := p4.oth hg (by show g ≠ _; omega)
  replace p5 := p5.oth hg (by show g ≠ _; omega)
  replace b2 := hB
  replace H0 := below_only H0 hg (by omega) H0.size
  clear hg hB
  refine hK.out _ _ ⟨p0.eq, p1.eq, p2.eq, p3.eq, p4.eq, p5.eq⟩ (fun hHeld => ?_)
  clear hK K
  (try simp only [getElem_toArray, getElem_cons_succ, getElem_cons_zero, Act.put, setIfInBounds_toArray, set_cons_zero, set_cons_succ])
  refine wpAnyH_done (by kernel_rfl) ?_ _
  refine NoPanic.normal ?_
  go_wp2_with fail
  refine bodyPost_ret (ret_rat rfl rfl b2) rfl ?_
  exact ⟨s2, A2, n2, c2, D2, m2, e2, rfl, k2.more (by omega), H0⟩
set_option maxRecDepth 100000 in
set_option maxHeartbeats 4000000 in
theorem total_more {v : Value} {n : Nat} (ih : ∀ {w : World} {v : Value} {l : List Sp}, SpS w L v l → BothS l → 1 ≤ l.length → l.length ≤ n → Calls Tryz.prog 81 #[v] w fun e w' => ∃ s1 A1 n1 c1 D1 m1 e1, e = .returned (.agg #[.bool s1, .slice A1 n1 c1, .slice D1 m1 e1]) ∧ NQ w' s1 (.slice A1 n1 c1) (.slice D1 m1 e1) (sumS l) (bndT l.length L) ∧ Below w.heap.size w w') (hS : SpS w L v l) (hB : BothS l) (h2 : 2 ≤ l.length) (hn : l.length ≤ n + 1) (hn2 : n + 1 ≤ 64 ∧ l.length ≤ n + 1 ∧ L ≤ 100) :
    Calls Tryz.prog 81 #[v] w fun e w' => ∃ s1 A1 n1 c1 D1 m1 e1, e = .returned (.agg #[.bool s1, .slice A1 n1 c1, .slice D1 m1 e1]) ∧ NQ w' s1 (.slice A1 n1 c1) (.slice D1 m1 e1) (sumS l) (bndT l.length L) ∧ Below w.heap.size w w' := by
  obtain ⟨A, c, e1, hc1, hc2⟩ := hS.form
  subst e1
  unfold maxLen at hc2
  obtain ⟨g, o, rfl⟩ := hS.addr (by omega)
  obtain ⟨h, hh⟩ : ∃ h, l.length / 2 = h := ⟨_, rfl⟩
  obtain ⟨m, hm⟩ : ∃ m, l.length = m := ⟨_, rfl⟩
  have h1 : 1 ≤ h := by omega
  have h2 : h < m := by omega
  have HT := Lib.hid (show (l.take h).length = h by rw [List.length_take]; omega)
  have HD := Lib.hid (show (l.drop h).length = m - h by rw [List.length_drop, hm])
  rw [hm] at hS hc1 hn hn2 ⊢
  have e0 : (((m : Nat) : Int) == 0) = false := by rw [beq_eq_false_iff_ne]; omega
  have e1_ : (((m : Nat) : Int) == 1) = false := by rw [beq_eq_false_iff_ne]; omega
  have eq : ((m : Int)).tdiv 2 = (h : Int) := by rw [← hh, hm]; exact Int.ofNat_tdiv m 2
  have hwq : IntKind.i64.wrap (h : Int) = (h : Int) := IntWalk.i64_in _ (by omega)
  have HSUM : Hid (sumS (l.take h) + sumS (l.drop h) = sumS l) := Lib.hid (by rw [← sumS_app, List.take_append_drop])
  have hne9 : ¬ c = h := by omega
  have hle9 : h ≤ c := by omega
  have hlm : h ≤ m := by omega
  have hbm : m - h ≤ n ∧ 1 ≤ m - h := by omega
  have slo := hS.low (k := h) hlm
  have shi := hS.high (k := h) hlm
  clear hh hm hS
  have HB2 := Lib.hid hB
  clear hB
  go_enter Tryz.func81, Tryz.ntmps81
  go_upto_region 1 with fail
  obtain ⟨W0, hW, b2, hbW, hszW0⟩ := boxes1 w #[.bool false, .slice none 0 0, .slice none 0 0] 28
  rw [hW]
  clear hW
  replace slo := slo.below hbW
  replace shi := shi.below hbW
  have H0 := hbW
  clear hbW
  go_wp2_with fail
  have hD := drawn_below W0
  replace slo := slo.below hD
  replace shi := shi.below hD
  replace b2 := b2.below hD
  replace H0 := H0.trans (hD.mono H0.size)
  clear hD
  refine wp_region_noPanic ?_
  refine wp_region_held_drew (S := (fun _ => True)) (by kernel_rfl) trivial (fun hHeld => ?_)
  generalize W0.drew = v1 at H0 hHeld slo shi b2 ⊢
  refine todo [0, 1, 4, 5, 2, 6] ?_
  iterate 6
    refine tkT ?_ rfl (by kernel_rfl) (fun _ _ _ h => h) (by rfl) (by assumption) ?_ ?_
    rotate_left
    · (intro w hSw; (try dsimp only at hSw); go_simp; (try with_reducible rfl))
    (try simp only [getElem_toArray, getElem_cons_succ, getElem_cons_zero, Act.put, setIfInBounds_toArray, set_cons_zero, set_cons_succ])
  refine tdone ?_
  refine rd1 3 (by kernel_rfl) rfl (fun K hK => ?_)
  go_simp
  go_at_call 81
  refine (ih slo HB2.out.take (by rw [HT.out]; omega) (by rw [HT.out]; omega)).mono ?_
  rintro e w2 ⟨s1, A1, n1, c1, D1, m1, e1, rfl, k1, hb⟩
  replace slo := slo.below hb
  replace shi := shi.below hb
  replace b2 := b2.below hb
  replace H0 := H0.trans (hb.mono H0.size)
  clear hb
  clear slo
  go_wp2_with fail
  refine hK.out _ _ trivial (fun hHeld => ?_)
  clear hK K
  (try simp only [getElem_toArray, getElem_cons_succ, getElem_cons_zero, Act.put, setIfInBounds_toArray, set_cons_zero, set_cons_succ])
  refine rd1 7 (by kernel_rfl) rfl (fun K hK => ?_)
  go_simp
  go_at_call 81
  refine (ih shi HB2.out.drop (by rw [HD.out]; omega) (by rw [HD.out]; omega)).mono ?_
  rintro e w3 ⟨s2, A2, n2, c2, D2, m2, e2, rfl, k2, hb⟩
  replace shi := shi.below hb
  replace k1 := k1.below hb
  replace b2 := b2.below hb
  replace H0 := H0.trans (hb.mono H0.size)
  clear hb
  clear shi
  go_wp2_with fail
  refine hK.out _ _ trivial (fun hHeld => ?_)
  clear hK K
  (try simp only [getElem_toArray, getElem_cons_succ, getElem_cons_zero, Act.put, setIfInBounds_toArray, set_cons_zero, set_cons_succ])
  refine rd1 8 (by kernel_rfl) rfl (fun K hK => ?_)
  go_simp
  go_at_call 107
  refine (radd_v k1.rq k2.rq (by rw [HT.out]; have := bnd_le h L (n := n + 1) ⟨hn2.1, by omega, hn2.2.2⟩; omega) (by rw [HD.out]; have := bnd_le (m - h) L (n := n + 1) ⟨hn2.1, by omega, hn2.2.2⟩; omega)).mono ?_
  rintro e w4 ⟨s3, A3, n3, c3, D3, m3, e3, rfl, k3, hb⟩
  replace k1 := k1.below hb
  replace k2 := k2.below hb
  replace b2 := b2.below hb
  replace H0 := H0.trans (hb.mono H0.size)
  clear hb
  clear k1
  clear k2
  go_wp2_with fail
  refine hK.out _ _ trivial (fun hHeld => ?_)
  clear hK K
  (try simp only [getElem_toArray, getElem_cons_succ, getElem_cons_zero, Act.put, setIfInBounds_toArray, set_cons_zero, set_cons_succ])
  obtain ⟨cb20, yb20, cb21, yb21, cb22, yb22⟩ := b2.cf3
  refine rd1 9 (by kernel_rfl) rfl (fun K hK => ?_)
  go_simp
  clear cb20 yb20 cb21 yb21 cb22 yb22
  have hg := only_store3 w4 (w.heap.size) (.bool s3) (.slice A3 n3 c3) (.slice D3 m3 e3)
  have hB := b2.stored3 (.bool s3) (.slice A3 n3 c3) (.slice D3 m3 e3)
  generalize hX : (((w4.setCell ⟨w.heap.size, 0, none⟩ (.bool s3)).setCell ⟨w.heap.size, 1, none⟩ (.slice A3 n3 c3)).setCell ⟨w.heap.size, 2, none⟩ (.slice D3 m3 e3)) = X5 at hg hB ⊢
  clear hX
  replace k3 := k3.kept b2 (by simp [notInt]) hg
  replace b2 := hB
  replace H0 := below_only H0 hg (by omega) H0.size
  clear hg hB
  refine hK.out _ _ trivial (fun hHeld => ?_)
  clear hK K
  (try simp only [getElem_toArray, getElem_cons_succ, getElem_cons_zero, Act.put, setIfInBounds_toArray, set_cons_zero, set_cons_succ])
  refine wpAnyH_done (by kernel_rfl) ?_ _
  refine NoPanic.normal ?_
  go_wp2_with fail
  refine bodyPost_ret (ret_rat rfl rfl b2) rfl ?_
  rw [HSUM.out] at k3
  exact ⟨s3, A3, n3, c3, D3, m3, e3, rfl, k3.more (by rw [HT.out, HD.out]; exact bnd_add h (m - h) m L h1 (by omega) (by omega)), H0⟩
theorem total_v (n : Nat) : ∀ {w : World} {v : Value} {l : List Sp}, SpS w L v l → BothS l → 1 ≤ l.length → l.length ≤ n → n ≤ 64 → L ≤ 100 → Calls Tryz.prog 81 #[v] w fun e w' => ∃ s1 A1 n1 c1 D1 m1 e1, e = .returned (.agg #[.bool s1, .slice A1 n1 c1, .slice D1 m1 e1]) ∧ NQ w' s1 (.slice A1 n1 c1) (.slice D1 m1 e1) (sumS l) (bndT l.length L) ∧ Below w.heap.size w w' := by
  induction n with
  | zero => intros; omega
  | succ n ih =>
    intro w v l hS hB h1 hn hn2 hL
    by_cases h2 : 2 ≤ l.length
    · exact total_more (n := n) (fun hS hB h1 hn => ih hS hB h1 hn (by omega) hL) hS hB h2 hn ⟨hn2, hn, hL⟩
    · obtain ⟨s, rfl⟩ := List.length_eq_one_iff.1 (show l.length = 1 by omega)
      obtain ⟨a, b, rfl⟩ := hB s (List.mem_cons_self ..)
      refine (total_one hS hL).mono ?_
      rintro e w' ⟨s1, A1, n1, c1, D1, m1, e1, rfl, k, hb⟩
      rw [show b - a = sumS [⟨some a, some b⟩] from (sumS_one rfl).symm] at k
      exact ⟨s1, A1, n1, c1, D1, m1, e1, rfl, k.more (by show _ ≤ bndT 1 L; unfold bndT; omega), hb⟩
set_option maxRecDepth 100000 in
set_option maxHeartbeats 4000000 in
theorem lclos_v (w : World) :
    Calls Tryz.prog 80 #[.agg #[.bool s0, .slice A0 n0 c0, .slice D0 m0 e0, .bool s1, .slice A1 n1 c1, .slice D1 m1 e1, .bool false, .bool false]] w fun e w' => e = .returned (.bool false) ∧ Below w.heap.size w w' := by
  go_enter Tryz.func80, Tryz.ntmps80
  go_wp2_with fail
  obtain ⟨W0, hW, b0, hbW, hszW0⟩ := boxes1 w #[.bool s0, .slice A0 n0 c0, .slice D0 m0 e0, .bool s1, .slice A1 n1 c1, .slice D1 m1 e1, .bool false, .bool false] 32
  rw [hW]
  clear hW
  have H0 := hbW
  clear hbW
  obtain ⟨cb00, cb01, cb02, cb03, cb04, cb05, cb06, cb07⟩ := b0.cells8
  go_wp2_with fail
  go_returns
  exact ⟨rfl, H0⟩
set_option maxRecDepth 100000 in
set_option maxHeartbeats 4000000 in
theorem lindex_v {v : Value} (hS : SpS w L v l) (hB : BothS l) :
    Calls Tryz.prog 109 #[v, .func (.func 80) #[] #[]] w fun e w' => e = .returned (.int .i64 (-1)) ∧ Below w.heap.size w w' := by
  obtain ⟨A, c, rfl, hc1, hc2⟩ := hS.form
  unfold maxLen at hc2
  have HO := Lib.hid hB
  clear hB
  go_enter Tryz.func109, Tryz.ntmps109
  go_wp2_with fail
  go_loopw [5, 8] (fun _ t8 wr => ∃ i : Nat, i ≤ l.length ∧ t8 = .int .i64 i ∧ Below w.heap.size w wr) (fun _ t8 _ => l.length - (intOf t8).toNat)
  case atStart => exact ⟨0, Nat.zero_le _, rfl, Below.refl _ _⟩
  case round =>
    obtain ⟨i, hi, rfl, H0⟩ := hrel
    by_cases hlt : i < l.length
    · obtain ⟨g, o, s0, A0, n0, c0, D0, m0, e0, s1, A1, n1, c1, D1, m1, e1, f0, h0, rfl, c0, c1, c2, c3, c4, c5, c6, c7, k0, k1⟩ := (hS.below H0).elem (List.getElem?_eq_getElem hlt)
      obtain ⟨a, b, hab⟩ := HO.out _ (List.getElem_mem hlt)
      obtain ⟨rfl, -⟩ := k0.yes (q := a) (by rw [hab])
      obtain ⟨rfl, -⟩ := k1.yes (q := b) (by rw [hab])
      clear hS hab k0 k1
      go_wp2_with fail
      refine (lclos_v _).mono ?_
      rintro e w1 ⟨rfl, hb⟩
      replace H0 := H0.trans (hb.mono H0.size)
      clear hb c0 c1 c2 c3 c4 c5 c6 c7
      go_wp2_with fail
      go_roundw
      case rel => exact ⟨i + 1, by omega, by go_num, H0⟩
      case measure => simp [intOf]; omega
    · clear hS
      go_wp2_with fail
      go_ret
      exact ⟨rfl, H0⟩
set_option maxRecDepth 100000 in
set_option maxHeartbeats 4000000 in
theorem lcont_v {v : Value} (hS : SpS w L v l) (hB : BothS l) :
    Calls Tryz.prog 79 #[v, .func (.func 80) #[] #[]] w fun e w' => e = .returned (.bool false) ∧ Below w.heap.size w w' := by
  go_enter Tryz.func79, Tryz.ntmps79
  go_wp2_with fail
  refine (lindex_v hS hB).mono ?_
  rintro e w0 ⟨rfl, hb⟩
  have H0 := hb
  clear hb
  go_wp2_with fail
  go_returns
  exact ⟨rfl, H0⟩
set_option maxRecDepth 100000 in
set_option maxHeartbeats 4000000 in
theorem length_nil {v : Value} (hS : SpS w L v []) (hB : BothS []) (hok : OkS []) (hsep : SepS []) (hL : L ≤ 100) :
    Calls Tryz.prog 38 #[v] w fun e w' => ∃ s1 A1 n1 c1 D1 m1 e1, e = .returned (.tuple #[.agg #[.bool s1, .slice A1 n1 c1, .slice D1 m1 e1], .nilIface]) ∧ NQ w' s1 (.slice A1 n1 c1) (.slice D1 m1 e1) ((0 : Int) : Rat) 2 ∧ Below w.heap.size w w' := by
  have HB1 := Lib.hid hB
  clear hB
  have HK := Lib.hid hok
  have HSE := Lib.hid hsep
  clear hok hsep
  go_enter Tryz.func38, Tryz.ntmps38
  go_upto_region 1 with fail
  obtain ⟨W0, hW, b2, hbW, hszW0⟩ := boxes1 w #[.bool false, .slice none 0 0, .slice none 0 0] 28
  rw [hW]
  clear hW
  replace hS := hS.below hbW
  have H0 := hbW
  clear hbW
  go_wp2_with fail
  refine (valid_v hS HK.out HSE.out (Nat.zero_le _) (by omega)).mono ?_
  rintro e w1 ⟨rfl, hb⟩
  replace hS := hS.below hb
  replace b2 := b2.below hb
  replace H0 := H0.trans (hb.mono H0.size)
  clear hb
  go_wp2_with fail
  refine (lcont_v hS HB1.out).mono ?_
  rintro e w2 ⟨rfl, hb⟩
  replace hS := hS.below hb
  replace b2 := b2.below hb
  replace H0 := H0.trans (hb.mono H0.size)
  clear hb
  go_wp2_with fail
  refine (total_nil hS).mono ?_
  rintro e w3 ⟨s1, A1, n1, c1, D1, m1, e1, rfl, k1, hb⟩
  replace hS := hS.below hb
  replace b2 := b2.below hb
  replace H0 := H0.trans (hb.mono H0.size)
  clear hb
  clear hS
  obtain ⟨cb20, yb20, cb21, yb21, cb22, yb22⟩ := b2.cf3
  go_wp2_with fail
  clear cb20 yb20 cb21 yb21 cb22 yb22
  have hg := only_store3 w3 (w.heap.size) (.bool s1) (.slice A1 n1 c1) (.slice D1 m1 e1)
  have hB := b2.stored3 (.bool s1) (.slice A1 n1 c1) (.slice D1 m1 e1)
  generalize hX : (((w3.setCell ⟨w.heap.size, 0, none⟩ (.bool s1)).setCell ⟨w.heap.size, 1, none⟩ (.slice A1 n1 c1)).setCell ⟨w.heap.size, 2, none⟩ (.slice D1 m1 e1)) = X4 at hg hB ⊢
  clear hX
  replace k1 := k1.kept b2 (by simp [notInt]) hg
  replace b2 := hB
  replace H0 := below_only H0 hg (by omega) H0.size
  clear hg hB
  refine bodyPost_ret (ret_rat_b rfl rfl b2) rfl ?_
  exact ⟨s1, A1, n1, c1, D1, m1, e1, rfl, k1, H0⟩
set_option maxRecDepth 100000 in
set_option maxHeartbeats 4000000 in
theorem length_pos {v : Value} (hS : SpS w L v l) (hB : BothS l) (hok : OkS l) (hsep : SepS l) (hL : L ≤ 100) (hp : 1 ≤ l.length) (hn : l.length ≤ 64) :
    Calls Tryz.prog 38 #[v] w fun e w' => ∃ s1 A1 n1 c1 D1 m1 e1, e = .returned (.tuple #[.agg #[.bool s1, .slice A1 n1 c1, .slice D1 m1 e1], .nilIface]) ∧ NQ w' s1 (.slice A1 n1 c1) (.slice D1 m1 e1) (sumS l) (bndT l.length L) ∧ Below w.heap.size w w' := by
  have HB1 := Lib.hid hB
  clear hB
  have HK := Lib.hid hok
  have HSE := Lib.hid hsep
  clear hok hsep
  go_enter Tryz.func38, Tryz.ntmps38
  go_upto_region 1 with fail
  obtain ⟨W0, hW, b2, hbW, hszW0⟩ := boxes1 w #[.bool false, .slice none 0 0, .slice none 0 0] 28
  rw [hW]
  clear hW
  replace hS := hS.below hbW
  have H0 := hbW
  clear hbW
  go_wp2_with fail
  refine (valid_v hS HK.out HSE.out (by omega) (by omega)).mono ?_
  rintro e w1 ⟨rfl, hb⟩
  replace hS := hS.below hb
  replace b2 := b2.below hb
  replace H0 := H0.trans (hb.mono H0.size)
  clear hb
  go_wp2_with fail
  refine (lcont_v hS HB1.out).mono ?_
  rintro e w2 ⟨rfl, hb⟩
  replace hS := hS.below hb
  replace b2 := b2.below hb
  replace H0 := H0.trans (hb.mono H0.size)
  clear hb
  go_wp2_with fail
  refine (total_v l.length hS HB1.out hp (Nat.le_refl _) hn (by omega)).mono ?_
  rintro e w3 ⟨s1, A1, n1, c1, D1, m1, e1, rfl, k1, hb⟩
  replace hS := hS.below hb
  replace b2 := b2.below hb
  replace H0 := H0.trans (hb.mono H0.size)
  clear hb
  clear hS
  obtain ⟨cb20, yb20, cb21, yb21, cb22, yb22⟩ := b2.cf3
  go_wp2_with fail
  clear cb20 yb20 cb21 yb21 cb22 yb22
  have hg := only_store3 w3 (w.heap.size) (.bool s1) (.slice A1 n1 c1) (.slice D1 m1 e1)
  have hB := b2.stored3 (.bool s1) (.slice A1 n1 c1) (.slice D1 m1 e1)
  generalize hX : (((w3.setCell ⟨w.heap.size, 0, none⟩ (.bool s1)).setCell ⟨w.heap.size, 1, none⟩ (.slice A1 n1 c1)).setCell ⟨w.heap.size, 2, none⟩ (.slice D1 m1 e1)) = X4 at hg hB ⊢
  clear hX
  replace k1 := k1.kept b2 (by simp [notInt]) hg
  replace b2 := hB
  replace H0 := below_only H0 hg (by omega) H0.size
  clear hg hB
  refine bodyPost_ret (ret_rat_b rfl rfl b2) rfl ?_
  exact ⟨s1, A1, n1, c1, D1, m1, e1, rfl, k1, H0⟩
theorem bndT_le {a n : Nat} (h : a ≤ n) (L : Nat) : bndT a L ≤ bndT n L := by
  unfold bndT
  have := Nat.mul_le_mul_right (2 * max L 2 + 3) h
  omega
/-- Length of a bounded set. -/
theorem length_v {v : Value} {g : Bool} {ts : List Rat} (h : SetV w L v g ts) (hb : Bnd g ts) (n : Nat) (hn : ts.length ≤ 2 * n) (hn2 : 1 ≤ n ∧ n ≤ 64) (hL : L ≤ 100) :
    Calls Tryz.prog 38 #[v] w fun e w' => ∃ s1 A1 n1 c1 D1 m1 e1, e = .returned (.tuple #[.agg #[.bool s1, .slice A1 n1 c1, .slice D1 m1 e1], .nilIface]) ∧ NQ w' s1 (.slice A1 n1 c1) (.slice D1 m1 e1) (sumS (spansOf g ts)) (bndT n L) ∧ Below w.heap.size w w' := by
  have hl := hb.len
  have h1 := hb.both
  have h2 := set_ok (b := g) h.2
  have h3 := set_sep (b := g) h.2
  have h4 := h.1
  generalize spansOf g ts = l at *
  by_cases h0 : 1 ≤ l.length
  · refine (length_pos h4 h1 h2 h3 hL h0 (by omega)).mono ?_
    rintro e w' ⟨s1, A1, n1, c1, D1, m1, e1, rfl, k, hB⟩
    exact ⟨s1, A1, n1, c1, D1, m1, e1, rfl, k.more (bndT_le (by omega) L), hB⟩
  · obtain rfl : l = [] := List.eq_nil_of_length_eq_zero (by omega)
    refine (length_nil h4 h1 h2 h3 hL).mono ?_
    rintro e w' ⟨s1, A1, n1, c1, D1, m1, e1, rfl, k, hB⟩
    exact ⟨s1, A1, n1, c1, D1, m1, e1, rfl, k.more (by have := bndT_le hn2.1 L; unfold bndT at *; omega), hB⟩
end
end Go.Proofs.YtpgkkkodniiilaaGreatDoor
