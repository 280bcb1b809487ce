/-
  The walk of the law RationalFloors, out of the contracts of what it calls.
-/
import Derived.Test.YtkhfadfjkmhpgaaGreatDoorRatP
import Derived.Test.YtkhfadfjkmhpgaaGreatDoorRatT
import Derived.Test.YtkhfadfjkmhpgaaGreatDoorRatS
import Derived.Test.YtkhfadfjkmhpgaaGreatDoorFloor
namespace Go.Proofs.YtkhfadfjkmhpgaaGreatDoor
open Go.RowKit

section
variable {A0 A1 A2 A3 D0 D1 D2 D3 : Option Addr} {n0 n1 n2 n3 c0 c1 c2 c3 m0 m1 m2 m3 e0 e1 e2 e3 : Nat} {s0 s1 s2 s3 : Bool} {z z' z0 z1 z2 : Int} {q q' q0 q1 q2 : Rat} {L L0 L1 L2 x x0 x1 y : Nat} {k : Int} {w : World}
theorem rsg_nonneg {q : Rat} (h : 0 ≤ q) : 0 ≤ rsg q := by
  unfold rsg
  have h1 : 0 ≤ q.num := Rat.num_nonneg.2 h
  rcases Int.lt_or_eq_of_le h1 with h2 | h2
  · rw [Int.sign_eq_one_of_pos h2]; omega
  · rw [← h2]; simp
theorem rsg_negative {q : Rat} (h : q < 0) : rsg q < 0 := by
  unfold rsg
  rw [Int.sign_eq_neg_one_of_neg (Int.not_le.1 (fun h2 => absurd (Rat.num_nonneg.1 h2) (Rat.not_le.2 h)))]; omega
theorem floor_ge (q : Rat) : 0 ≤ rsg (q - (q.floor : Rat)) := rsg_nonneg (by have := Rat.floor_le q; grind)
theorem floor_lt1 (q : Rat) : rsg (q - (q.floor : Rat) - ((1 : Int) : Rat)) < 0 := rsg_negative (by have := Rat.lt_floor_add_one q; rw [Rat.intCast_add] at this; grind)
theorem one_lit (w : World) : ∃ W, w.alloc (.cells #[.int .u32 1] 77) = W ∧ NV W (.slice (some ⟨w.heap.size, 0, none⟩) 1 1) 1 1 ∧ Below w.heap.size w W ∧ W.heap.size = w.heap.size + 1 := by
  have r1 : Raw (w.alloc (.cells #[.int .u32 1] 77)) (.slice (some ⟨w.heap.size, 0, none⟩) 1 1) [1] := raw_lit w _ _ 1 _ rfl (okD_one (by decide)) rfl (by decide) rfl
  have hd : digs 1 = [1] := by rw [digs_pos (by omega), show 1 / 4294967296 = 0 from rfl, digs_zero]
  exact ⟨_, rfl, ⟨by unfold Num; rw [hd]; exact r1, by rw [Bs_one]; omega⟩, below_alloc w _, by simp⟩
theorem rsg_half (q : Rat) : rsg (q / 2) = rsg q := by
  rw [← mid_mk (q := q) (z := q.num) (d := q.den) (Rat.mkRat_self q).symm, rsg_mk (by have := q.den_nz; omega)]; rfl
theorem rsg_self (q : Rat) : rsg (q - q) = 0 := by rw [Rat.sub_self]; rfl
theorem rsg_of {q q' : Rat} (h : q = q') : rsg (q - q') = 0 := by rw [h]; exact rsg_self q'
set_option maxRecDepth 100000 in
set_option maxHeartbeats 8000000 in
theorem rationalfloors_any {v : Value} {a a' : Addr} (HI : Ints w v) (hS : w.cell? ⟨0, 0, none⟩ = some (.iface 199 (.pointer (some a)))) (hR : w.cell? ⟨1, 0, none⟩ = some (.iface 199 (.pointer (some a')))) (htab : Lib.TabIs Tryz.prog w "internal/strconv.uint64pow10" .u64 Lib.pow10Tab) :
    Calls Tryz.prog 8 #[v] w fun e w' => e = .returned (.bool true) ∧ Below w.heap.size w w' := by
  have blkS := World.block_lt_of_cell? _ _ hS
  have blkR := World.block_lt_of_cell? _ _ hR
  have HK := Lib.hid (fun (W : World) (h : Below w.heap.size w W) => known3_any ((h.cell (p := ⟨0, 0, none⟩) blkS).trans hS) ((h.cell (p := ⟨1, 0, none⟩) blkR).trans hR) (Go.Joins.tab_stays (show Tryz.prog.globalNamed "internal/strconv.uint64pow10" = some 5 by kernel_rfl) htab h (Nat.le_refl _)))
  clear hS hR htab blkS blkR
  go_enter Tryz.func8, Tryz.ntmps8
  go_wp2_with fail
  refine (new_any HI).mono ?_
  rintro e w1 ⟨rfl, hT, H0, hsz⟩
  have hlt : w.heap.size < w1.heap.size := by omega
  clear hsz HI
  go_wp2_with fail
  refine (rmade_v hT hlt).mono ?_
  rintro e w2 ⟨q0, s0, A0, n0, c0, D0, m0, e0, rfl, f0, hT', hg⟩
  clear hT
  have hT := hT'
  clear hT'
  replace hlt := Nat.lt_of_lt_of_le hlt hg.size
  replace H0 := H0.grown hg H0.size (by rintro k hk; injection hk with hk; omega)
  clear hg
  clear hT hlt
  obtain ⟨W3, hW, b0, hbW, hszW3⟩ := boxes1 w2 #[.bool s0, .slice A0 n0 c0, .slice D0 m0 e0] 27
  skip
  skip
  replace f0 := f0.below hbW
  replace H0 := H0.trans (hbW.mono H0.size)
  clear hbW
  have cb00 := b0.cell 0 _ rfl
  have cb01 := b0.cell 1 _ rfl
  have cb02 := b0.cell 2 _ rfl
  go_wp2_with fail
  clear hW
  clear cb00 cb01 cb02
  refine (rfloor_v f0 (by omega)).mono ?_
  rintro e w4 ⟨s1, A1, n1, c1, rfl, g1, hb⟩
  replace f0 := f0.below hb
  replace b0 := b0.below hb
  replace H0 := H0.trans (hb.mono H0.size)
  clear hb
  obtain ⟨Wa, hWa, f8, hbWa, hsWa⟩ := one_lit w4
  replace hsWa : w4.heap.size < Wa.heap.size := by omega
  replace f0 := f0.below hbWa
  replace g1 := g1.below hbWa
  replace b0 := b0.below hbWa
  replace H0 := H0.trans (hbWa.mono H0.size)
  clear hbWa
  have lb0_5 := b0.lt
  obtain ⟨W5, hW, b1, hbW, hszW5⟩ := boxes1 Wa #[.bool s1, .slice A1 n1 c1, .slice (some ⟨w4.heap.size, 0, none⟩) 1 1] 27
  skip
  skip
  replace f0 := f0.below hbW
  replace g1 := g1.below hbW
  replace f8 := f8.below hbW
  replace b0 := b0.below hbW
  replace H0 := H0.trans (hbW.mono H0.size)
  clear hbW
  have cb00 := b0.cell 0 _ rfl
  have cb01 := b0.cell 1 _ rfl
  have cb02 := b0.cell 2 _ rfl
  have cb10 := b1.cell 0 _ rfl
  have cb11 := b1.cell 1 _ rfl
  have cb12 := b1.cell 2 _ rfl
  go_wp2_with fail
  clear hW hWa
  have fq : RQ W5 s1 (.slice A1 n1 c1) (.slice (some ⟨w4.heap.size, 0, none⟩) 1 1) (q0.floor : Rat) 7 := ⟨_, _, g1.ri.more (by omega), f8.rv.more (by omega), (Rat.mkRat_self (q0.floor : Rat)).symm⟩
  clear g1
  clear f8
  clear cb00 cb01 cb02 cb10 cb11 cb12
  refine (rneg_v f0 (by omega)).mono ?_
  rintro e w6 ⟨s2, A2, n2, c2, D2, m2, e2, rfl, g2, hb⟩
  replace f0 := f0.below hb
  replace fq := fq.below hb
  replace b0 := b0.below hb
  replace b1 := b1.below hb
  replace H0 := H0.trans (hb.mono H0.size)
  clear hb
  go_wp2_with fail
  refine (rfloor_v g2.rq (by omega)).mono ?_
  rintro e w7 ⟨s3, A3, n3, c3, rfl, g3, hb⟩
  replace f0 := f0.below hb
  replace fq := fq.below hb
  replace g2 := g2.below hb
  replace b0 := b0.below hb
  replace b1 := b1.below hb
  replace H0 := H0.trans (hb.mono H0.size)
  clear hb
  clear g2
  have lb0_8 := b0.lt
  have lb1_8 := b1.lt
  obtain ⟨W8, hW, b3, hbW, hszW8⟩ := boxes1 w7 #[.bool s3, .slice A3 n3 c3] 25
  skip
  skip
  replace f0 := f0.below hbW
  replace fq := fq.below hbW
  replace g3 := g3.below hbW
  replace b0 := b0.below hbW
  replace b1 := b1.below hbW
  replace H0 := H0.trans (hbW.mono H0.size)
  clear hbW
  have cb00 := b0.cell 0 _ rfl
  have cb01 := b0.cell 1 _ rfl
  have cb02 := b0.cell 2 _ rfl
  have cb10 := b1.cell 0 _ rfl
  have cb11 := b1.cell 1 _ rfl
  have cb12 := b1.cell 2 _ rfl
  have cb30 := b3.cell 0 _ rfl
  have cb31 := b3.cell 1 _ rfl
  go_wp2_with fail
  clear hW
  clear cb00 cb01 cb02 cb10 cb11 cb12 cb30 cb31
  refine (rsub_v f0 fq (by omega) (by omega)).mono ?_
  rintro e w9 ⟨s4, A4, n4, c4, D4, m4, e4, rfl, g4, hb⟩
  replace f0 := f0.below hb
  replace fq := fq.below hb
  replace g3 := g3.below hb
  replace b0 := b0.below hb
  replace b1 := b1.below hb
  replace b3 := b3.below hb
  replace H0 := H0.trans (hb.mono H0.size)
  clear hb
  clear fq
  have lb0_10 := b0.lt
  have lb1_10 := b1.lt
  have lb3_10 := b3.lt
  obtain ⟨W10, hW, b4, hbW, hszW10⟩ := boxes1 w9 #[.bool s4, .slice A4 n4 c4, .slice D4 m4 e4] 27
  skip
  skip
  replace f0 := f0.below hbW
  replace g3 := g3.below hbW
  replace g4 := g4.below hbW
  replace b0 := b0.below hbW
  replace b1 := b1.below hbW
  replace b3 := b3.below hbW
  replace H0 := H0.trans (hbW.mono H0.size)
  clear hbW
  have cb00 := b0.cell 0 _ rfl
  have cb01 := b0.cell 1 _ rfl
  have cb02 := b0.cell 2 _ rfl
  have cb30 := b3.cell 0 _ rfl
  have cb31 := b3.cell 1 _ rfl
  have cb40 := b4.cell 0 _ rfl
  have cb41 := b4.cell 1 _ rfl
  have cb42 := b4.cell 2 _ rfl
  go_wp2_with fail
  clear hW
  obtain ⟨k1, hk1⟩ : ∃ k, rsg (q0 - (q0.floor : Rat)) = k := ⟨_, rfl⟩
  obtain ⟨k2, hk2⟩ : ∃ k, rsg (q0 - (q0.floor : Rat) - ((1 : Int) : Rat)) = k := ⟨_, rfl⟩
  have p1 : decide ((0 : Int) ≤ k1) = true := decide_eq_true (by rw [← hk1]; exact floor_ge q0)
  have p2 : decide (k2 < (0 : Int)) = true := decide_eq_true (by rw [← hk2]; exact floor_lt1 q0)
  have HK1 := Lib.hid hk1
  have HK2 := Lib.hid hk2
  clear hk1 hk2
  have HTI := Lib.hid (fun z : Int => decide_eq_true (rfl : z = z))
  clear cb00 cb01 cb02 cb30 cb31 cb40 cb41 cb42
  have hD := drawn_below W10
  replace f0 := f0.below hD
  replace g3 := g3.below hD
  replace g4 := g4.below hD
  replace b0 := b0.below hD
  replace b1 := b1.below hD
  replace b3 := b3.below hD
  replace b4 := b4.below hD
  replace H0 := H0.trans (hD.mono H0.size)
  clear hD
  have K0 := (And.intro (b0.cell 0 _ rfl) (And.intro (b0.cell 1 _ rfl) (And.intro (b0.cell 2 _ rfl) (And.intro (b3.cell 0 _ rfl) (And.intro (b3.cell 1 _ rfl) (And.intro (b4.cell 0 _ rfl) (And.intro (b4.cell 1 _ rfl) (b4.cell 2 _ rfl))))))))
  go_region_held3 (fun V => V.cell? ⟨w2.heap.size, 0, none⟩ = some (.bool s0) ∧ V.cell? ⟨w2.heap.size, 1, none⟩ = some (.slice A0 n0 c0) ∧ V.cell? ⟨w2.heap.size, 2, none⟩ = some (.slice D0 m0 e0) ∧ V.cell? ⟨w7.heap.size, 0, none⟩ = some (.bool s3) ∧ V.cell? ⟨w7.heap.size, 1, none⟩ = some (.slice A3 n3 c3) ∧ V.cell? ⟨w9.heap.size, 0, none⟩ = some (.bool s4) ∧ V.cell? ⟨w9.heap.size, 1, none⟩ = some (.slice A4 n4 c4) ∧ V.cell? ⟨w9.heap.size, 2, none⟩ = some (.slice D4 m4 e4)) (first | exact K9 | exact K8 | exact K7 | exact K6 | exact K5 | exact K4 | exact K3 | exact K2 | exact K1 | exact K0 | go_keep)
    (first
      | (go_at_call 40; have hK9 := K8; clear hK9; with_reducible refine (sameI_v g6 g9 rfl).mono ?_; rintro e v19 ⟨rfl, hb⟩; have f0 := f0.below hb; have g6 := g6.below hb; have g9 := g9.below hb; have b0 := b0.below hb; have b1 := b1.below hb; have b3 := b3.below hb; have b4 := b4.below hb; have H0 := H0.trans (hb.mono H0.size); clear g6; clear g9; have K9 := (And.intro (b0.cell 0 _ rfl) (And.intro (b0.cell 1 _ rfl) (And.intro (b0.cell 2 _ rfl) (And.intro (b3.cell 0 _ rfl) (And.intro (b3.cell 1 _ rfl) (And.intro (b4.cell 0 _ rfl) (And.intro (b4.cell 1 _ rfl) (b4.cell 2 _ rfl)))))))); clear hb)
      | (go_at_call 42; have hK9 := K7; clear hK9; with_reducible refine (toI_v g8 (by omega)).mono ?_; rintro e v18 ⟨A9, n9, c9, rfl, g9, hb⟩; have f0 := f0.below hb; have g6 := g6.below hb; have g8 := g8.below hb; have b0 := b0.below hb; have b1 := b1.below hb; have b3 := b3.below hb; have b4 := b4.below hb; have H0 := H0.trans (hb.mono H0.size); clear g8; have K8 := (And.intro (b0.cell 0 _ rfl) (And.intro (b0.cell 1 _ rfl) (And.intro (b0.cell 2 _ rfl) (And.intro (b3.cell 0 _ rfl) (And.intro (b3.cell 1 _ rfl) (And.intro (b4.cell 0 _ rfl) (And.intro (b4.cell 1 _ rfl) (b4.cell 2 _ rfl)))))))); clear hb)
      | (go_at_call 44; have hK9 := K6; clear hK9; with_reducible refine (nminus_v g7).mono ?_; rintro e v17 ⟨s8, rfl, g8, hb⟩; have f0 := f0.below hb; have g6 := g6.below hb; have g7 := g7.below hb; have b0 := b0.below hb; have b1 := b1.below hb; have b3 := b3.below hb; have b4 := b4.below hb; have H0 := H0.trans (hb.mono H0.size); clear g7; have K7 := (And.intro (b0.cell 0 _ rfl) (And.intro (b0.cell 1 _ rfl) (And.intro (b0.cell 2 _ rfl) (And.intro (b3.cell 0 _ rfl) (And.intro (b3.cell 1 _ rfl) (And.intro (b4.cell 0 _ rfl) (And.intro (b4.cell 1 _ rfl) (b4.cell 2 _ rfl)))))))); clear hb)
      | (go_at_call 13; have hK9 := K5; clear hK9; with_reducible refine (refI_v g3.ri).mono ?_; rintro e v16 ⟨s7, A7, n7, c7, rfl, g7, hb⟩; have f0 := f0.below hb; have g3 := g3.below hb; have g6 := g6.below hb; have b0 := b0.below hb; have b1 := b1.below hb; have b3 := b3.below hb; have b4 := b4.below hb; have H0 := H0.trans (hb.mono H0.size); clear g3; have K6 := (And.intro (b0.cell 0 _ rfl) (And.intro (b0.cell 1 _ rfl) (And.intro (b0.cell 2 _ rfl) (And.intro (b3.cell 0 _ rfl) (And.intro (b3.cell 1 _ rfl) (And.intro (b4.cell 0 _ rfl) (And.intro (b4.cell 1 _ rfl) (b4.cell 2 _ rfl)))))))); clear hb)
      | (go_at_call 43; have hK9 := K4; clear hK9; with_reducible refine (rceil_v f0 (by omega)).mono ?_; rintro e v15 ⟨s6, A6, n6, c6, rfl, g6, hb⟩; have f0 := f0.below hb; have g3 := g3.below hb; have b0 := b0.below hb; have b1 := b1.below hb; have b3 := b3.below hb; have b4 := b4.below hb; have H0 := H0.trans (hb.mono H0.size); have K5 := (And.intro (b0.cell 0 _ rfl) (And.intro (b0.cell 1 _ rfl) (And.intro (b0.cell 2 _ rfl) (And.intro (b3.cell 0 _ rfl) (And.intro (b3.cell 1 _ rfl) (And.intro (b4.cell 0 _ rfl) (And.intro (b4.cell 1 _ rfl) (b4.cell 2 _ rfl)))))))); clear hb)
      | (go_at_call 23; have hK9 := K3; clear hK9; with_reducible refine (rcmp_v g4.rq g5.rq (by omega) (by omega) HK2.out).mono ?_; rintro e v14 ⟨rfl, hb⟩; have f0 := f0.below hb; have g3 := g3.below hb; have g4 := g4.below hb; have g5 := g5.below hb; have b0 := b0.below hb; have b1 := b1.below hb; have b3 := b3.below hb; have b4 := b4.below hb; have H0 := H0.trans (hb.mono H0.size); clear g4; clear g5; have K4 := (And.intro (b0.cell 0 _ rfl) (And.intro (b0.cell 1 _ rfl) (And.intro (b0.cell 2 _ rfl) (And.intro (b3.cell 0 _ rfl) (And.intro (b3.cell 1 _ rfl) (And.intro (b4.cell 0 _ rfl) (And.intro (b4.cell 1 _ rfl) (b4.cell 2 _ rfl)))))))); clear hb)
      | (go_at_call 19; have hK9 := K2; clear hK9; with_reducible refine (rfromint_v 1 (by omega) (by omega) _).mono ?_; rintro e v13 ⟨s5, A5, n5, c5, D5, m5, e5, rfl, g5, hb⟩; have f0 := f0.below hb; have g3 := g3.below hb; have g4 := g4.below hb; have b0 := b0.below hb; have b1 := b1.below hb; have b3 := b3.below hb; have b4 := b4.below hb; have H0 := H0.trans (hb.mono H0.size); have K3 := (And.intro (b0.cell 0 _ rfl) (And.intro (b0.cell 1 _ rfl) (And.intro (b0.cell 2 _ rfl) (And.intro (b3.cell 0 _ rfl) (And.intro (b3.cell 1 _ rfl) (And.intro (b4.cell 0 _ rfl) (And.intro (b4.cell 1 _ rfl) (b4.cell 2 _ rfl)))))))); clear hb)
      | (go_at_call 21; have hK9 := K1; clear hK9; with_reducible refine (rsign_v g4.rq HK1.out).mono ?_; rintro e v12 ⟨rfl, hb⟩; have f0 := f0.below hb; have g3 := g3.below hb; have g4 := g4.below hb; have b0 := b0.below hb; have b1 := b1.below hb; have b3 := b3.below hb; have b4 := b4.below hb; have H0 := H0.trans (hb.mono H0.size); have K2 := (And.intro (b0.cell 0 _ rfl) (And.intro (b0.cell 1 _ rfl) (And.intro (b0.cell 2 _ rfl) (And.intro (b3.cell 0 _ rfl) (And.intro (b3.cell 1 _ rfl) (And.intro (b4.cell 0 _ rfl) (And.intro (b4.cell 1 _ rfl) (b4.cell 2 _ rfl)))))))); clear hb)
      | (go_at_call 10; have hK9 := K0; clear hK9; with_reducible refine (HK.out _ H0).mono ?_; rintro e v11 ⟨rfl, hb⟩; have f0 := f0.below hb; have g3 := g3.below hb; have g4 := g4.below hb; have b0 := b0.below hb; have b1 := b1.below hb; have b3 := b3.below hb; have b4 := b4.below hb; have H0 := H0.trans (hb.mono H0.size); have K1 := (And.intro (b0.cell 0 _ rfl) (And.intro (b0.cell 1 _ rfl) (And.intro (b0.cell 2 _ rfl) (And.intro (b3.cell 0 _ rfl) (And.intro (b3.cell 1 _ rfl) (And.intro (b4.cell 0 _ rfl) (And.intro (b4.cell 1 _ rfl) (b4.cell 2 _ rfl)))))))); clear hb)
    )
  go_wp2_with fail
  go_returns
  exact ⟨rfl, H0⟩
end
end Go.Proofs.YtkhfadfjkmhpgaaGreatDoor
