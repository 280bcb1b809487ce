/-
  The walk of the law RationalField, out of the contracts of what it calls.
-/
import Derived.Test.YtkhfadfjkmhpgaaGreatDoorRatP
import Derived.Test.YtkhfadfjkmhpgaaGreatDoorRatT
namespace Go.Proofs.YtkhfadfjkmhpgaaGreatDoor
open Go.RowKit

section
variable {A0 A1 A2 A3 D0 D1 D2 D3 : Option Addr} {n0 n1 n2 n3 c0 c1 c2 c3 m0 m1 m2 m3 e0 e1 e2 e3 : Nat} {s0 s1 s2 s3 : Bool} {z z' z0 z1 z2 : Int} {q q' q0 q1 q2 : Rat} {L L0 L1 L2 x x0 x1 y : Nat} {k : Int} {w : World}
theorem rsg_half (q : Rat) : rsg (q / 2) = rsg q := by
  rw [← mid_mk (q := q) (z := q.num) (d := q.den) (Rat.mkRat_self q).symm, rsg_mk (by have := q.den_nz; omega)]; rfl
theorem rsg_self (q : Rat) : rsg (q - q) = 0 := by rw [Rat.sub_self]; rfl
theorem rsg_of {q q' : Rat} (h : q = q') : rsg (q - q') = 0 := by rw [h]; exact rsg_self q'
set_option maxRecDepth 100000 in
set_option maxHeartbeats 8000000 in
theorem rationalfield_any {v : Value} {a a' : Addr} (HI : Ints w v) (hS : w.cell? ⟨0, 0, none⟩ = some (.iface 199 (.pointer (some a)))) (hR : w.cell? ⟨1, 0, none⟩ = some (.iface 199 (.pointer (some a')))) (htab : Lib.TabIs Tryz.prog w "internal/strconv.uint64pow10" .u64 Lib.pow10Tab) :
    Calls Tryz.prog 5 #[v] w fun e w' => e = .returned (.bool true) ∧ Below w.heap.size w w' := by
  have blkS := World.block_lt_of_cell? _ _ hS
  have blkR := World.block_lt_of_cell? _ _ hR
  have HK := Lib.hid (fun (W : World) (h : Below w.heap.size w W) => known3_any ((h.cell (p := ⟨0, 0, none⟩) blkS).trans hS) ((h.cell (p := ⟨1, 0, none⟩) blkR).trans hR) (Go.Joins.tab_stays (show Tryz.prog.globalNamed "internal/strconv.uint64pow10" = some 5 by kernel_rfl) htab h (Nat.le_refl _)))
  clear hS hR htab blkS blkR
  go_enter Tryz.func5, Tryz.ntmps5
  go_wp2_with fail
  refine (new_any HI).mono ?_
  rintro e w1 ⟨rfl, hT, H0, hsz⟩
  have hlt : w.heap.size < w1.heap.size := by omega
  clear hsz HI
  go_wp2_with fail
  refine (rmade_v hT hlt).mono ?_
  rintro e w2 ⟨q0, s0, A0, n0, c0, D0, m0, e0, rfl, f0, hT', hg⟩
  clear hT
  have hT := hT'
  clear hT'
  replace hlt := Nat.lt_of_lt_of_le hlt hg.size
  replace H0 := H0.grown hg H0.size (by rintro k hk; injection hk with hk; omega)
  clear hg
  go_wp2_with fail
  refine (rmade_v hT hlt).mono ?_
  rintro e w3 ⟨q1, s1, A1, n1, c1, D1, m1, e1, rfl, f1, hT', hg⟩
  replace f0 := f0.tape hT hg
  clear hT
  have hT := hT'
  clear hT'
  replace hlt := Nat.lt_of_lt_of_le hlt hg.size
  replace H0 := H0.grown hg H0.size (by rintro k hk; injection hk with hk; omega)
  clear hg
  go_wp2_with fail
  refine (rmade_v hT hlt).mono ?_
  rintro e w4 ⟨q2, s2, A2, n2, c2, D2, m2, e2, rfl, f2, hT', hg⟩
  replace f0 := f0.tape hT hg
  replace f1 := f1.tape hT hg
  clear hT
  have hT := hT'
  clear hT'
  replace hlt := Nat.lt_of_lt_of_le hlt hg.size
  replace H0 := H0.grown hg H0.size (by rintro k hk; injection hk with hk; omega)
  clear hg
  clear hT hlt
  obtain ⟨W5, hW, b0, b1, b2, hbW, hszW5⟩ := boxes3 w4 #[.bool s0, .slice A0 n0 c0, .slice D0 m0 e0] #[.bool s1, .slice A1 n1 c1, .slice D1 m1 e1] #[.bool s2, .slice A2 n2 c2, .slice D2 m2 e2] 27 27 27
  skip
  skip
  replace f0 := f0.below hbW
  replace f1 := f1.below hbW
  replace f2 := f2.below hbW
  replace H0 := H0.trans (hbW.mono H0.size)
  clear hbW
  have cb00 := b0.cell 0 _ rfl
  have cb01 := b0.cell 1 _ rfl
  have cb02 := b0.cell 2 _ rfl
  have cb10 := b1.cell 0 _ rfl
  have cb11 := b1.cell 1 _ rfl
  have cb12 := b1.cell 2 _ rfl
  go_wp2_with fail
  clear hW
  clear cb00 cb01 cb02 cb10 cb11 cb12
  refine (radd_v f0 f1 (by omega) (by omega)).mono ?_
  rintro e w6 ⟨s3, A3, n3, c3, D3, m3, e3, rfl, g3, hb⟩
  replace f0 := f0.below hb
  replace f1 := f1.below hb
  replace f2 := f2.below hb
  replace b0 := b0.below hb
  replace b1 := b1.below hb
  replace b2 := b2.below hb
  replace H0 := H0.trans (hb.mono H0.size)
  clear hb
  have lb0_7 := b0.lt
  have lb1_7 := b1.lt
  have lb2_7 := b2.lt
  obtain ⟨W7, hW, b3, hbW, hszW7⟩ := boxes1 w6 #[.bool s3, .slice A3 n3 c3, .slice D3 m3 e3] 27
  skip
  skip
  replace f0 := f0.below hbW
  replace f1 := f1.below hbW
  replace f2 := f2.below hbW
  replace g3 := g3.below hbW
  replace b0 := b0.below hbW
  replace b1 := b1.below hbW
  replace b2 := b2.below hbW
  replace H0 := H0.trans (hbW.mono H0.size)
  clear hbW
  go_wp2_with fail
  clear hW
  obtain ⟨kq, hkq⟩ : ∃ k, rsg (q0 - q1) = k := ⟨_, rfl⟩
  have HQ := Lib.hid hkq
  have E1 := Lib.hid (rsg_of (Rat.add_comm q0 q1))
  have E2 := Lib.hid (rsg_of (show q0 + q1 - q1 = q0 by grind))
  have E3 := Lib.hid (rsg_of (Rat.mul_add q0 q1 q2))
  have E4 : Hid (rsg (q0 + q2 - (q1 + q2)) = kq) := Lib.hid (by rw [← hkq]; congr 1; grind)
  have E5 : Hid (rsg (q0 - (q0 + q1) / 2) = kq) := Lib.hid (by rw [← hkq, ← rsg_half (q0 - q1)]; congr 1; grind)
  have E6 : Hid (rsg ((q0 + q1) / 2 - q1) = kq) := Lib.hid (by rw [← hkq, ← rsg_half (q0 - q1)]; congr 1; grind)
  clear hkq
  have hD := drawn_below W7
  replace f0 := f0.below hD
  replace f1 := f1.below hD
  replace f2 := f2.below hD
  replace g3 := g3.below hD
  replace b0 := b0.below hD
  replace b1 := b1.below hD
  replace b2 := b2.below hD
  replace b3 := b3.below hD
  replace H0 := H0.trans (hD.mono H0.size)
  clear hD
  have K0 := (And.intro (b0.cell 0 _ rfl) (And.intro (b0.cell 1 _ rfl) (And.intro (b0.cell 2 _ rfl) (And.intro (b1.cell 0 _ rfl) (And.intro (b1.cell 1 _ rfl) (And.intro (b1.cell 2 _ rfl) (And.intro (b2.cell 0 _ rfl) (And.intro (b2.cell 1 _ rfl) (And.intro (b2.cell 2 _ rfl) (And.intro (b3.cell 0 _ rfl) (And.intro (b3.cell 1 _ rfl) (b3.cell 2 _ rfl))))))))))))
  go_region_held3 (fun V => V.cell? ⟨w4.heap.size, 0, none⟩ = some (.bool s0) ∧ V.cell? ⟨w4.heap.size, 1, none⟩ = some (.slice A0 n0 c0) ∧ V.cell? ⟨w4.heap.size, 2, none⟩ = some (.slice D0 m0 e0) ∧ V.cell? ⟨w4.heap.size + 1, 0, none⟩ = some (.bool s1) ∧ V.cell? ⟨w4.heap.size + 1, 1, none⟩ = some (.slice A1 n1 c1) ∧ V.cell? ⟨w4.heap.size + 1, 2, none⟩ = some (.slice D1 m1 e1) ∧ V.cell? ⟨w4.heap.size + 1 + 1, 0, none⟩ = some (.bool s2) ∧ V.cell? ⟨w4.heap.size + 1 + 1, 1, none⟩ = some (.slice A2 n2 c2) ∧ V.cell? ⟨w4.heap.size + 1 + 1, 2, none⟩ = some (.slice D2 m2 e2) ∧ V.cell? ⟨w6.heap.size, 0, none⟩ = some (.bool s3) ∧ V.cell? ⟨w6.heap.size, 1, none⟩ = some (.slice A3 n3 c3) ∧ V.cell? ⟨w6.heap.size, 2, none⟩ = some (.slice D3 m3 e3)) (first | exact K14 | exact K13 | exact K12 | exact K11 | exact K10 | exact K9 | exact K8 | exact K7 | exact K6 | exact K5 | exact K4 | exact K3 | exact K2 | exact K1 | exact K0 | go_keep)
    (first
      | (go_at_call 23; have hK9 := K13; clear hK9; with_reducible refine (rcmp_v f0 f1 (by omega) (by omega) HQ.out).mono ?_; rintro e v21 ⟨rfl, hb⟩; have f0 := f0.below hb; have f1 := f1.below hb; have f2 := f2.below hb; have g3 := g3.below hb; have b0 := b0.below hb; have b1 := b1.below hb; have b2 := b2.below hb; have b3 := b3.below hb; have H0 := H0.trans (hb.mono H0.size); have K14 := (And.intro (b0.cell 0 _ rfl) (And.intro (b0.cell 1 _ rfl) (And.intro (b0.cell 2 _ rfl) (And.intro (b1.cell 0 _ rfl) (And.intro (b1.cell 1 _ rfl) (And.intro (b1.cell 2 _ rfl) (And.intro (b2.cell 0 _ rfl) (And.intro (b2.cell 1 _ rfl) (And.intro (b2.cell 2 _ rfl) (And.intro (b3.cell 0 _ rfl) (And.intro (b3.cell 1 _ rfl) (b3.cell 2 _ rfl)))))))))))); clear hb)
      | (go_at_call 23; have hK9 := K12; clear hK9; with_reducible refine (rcmp_v g11.rq g12.rq (by omega) (by omega) E4.out).mono ?_; rintro e v20 ⟨rfl, hb⟩; have f0 := f0.below hb; have f1 := f1.below hb; have f2 := f2.below hb; have g3 := g3.below hb; have g11 := g11.below hb; have g12 := g12.below hb; have b0 := b0.below hb; have b1 := b1.below hb; have b2 := b2.below hb; have b3 := b3.below hb; have H0 := H0.trans (hb.mono H0.size); clear g11; clear g12; have K13 := (And.intro (b0.cell 0 _ rfl) (And.intro (b0.cell 1 _ rfl) (And.intro (b0.cell 2 _ rfl) (And.intro (b1.cell 0 _ rfl) (And.intro (b1.cell 1 _ rfl) (And.intro (b1.cell 2 _ rfl) (And.intro (b2.cell 0 _ rfl) (And.intro (b2.cell 1 _ rfl) (And.intro (b2.cell 2 _ rfl) (And.intro (b3.cell 0 _ rfl) (And.intro (b3.cell 1 _ rfl) (b3.cell 2 _ rfl)))))))))))); clear hb)
      | (go_at_call 32; have hK9 := K11; clear hK9; with_reducible refine (radd_v f1 f2 (by omega) (by omega)).mono ?_; rintro e v19 ⟨s12, A12, n12, c12, D12, m12, e12, rfl, g12, hb⟩; have f0 := f0.below hb; have f1 := f1.below hb; have f2 := f2.below hb; have g3 := g3.below hb; have g11 := g11.below hb; have b0 := b0.below hb; have b1 := b1.below hb; have b2 := b2.below hb; have b3 := b3.below hb; have H0 := H0.trans (hb.mono H0.size); have K12 := (And.intro (b0.cell 0 _ rfl) (And.intro (b0.cell 1 _ rfl) (And.intro (b0.cell 2 _ rfl) (And.intro (b1.cell 0 _ rfl) (And.intro (b1.cell 1 _ rfl) (And.intro (b1.cell 2 _ rfl) (And.intro (b2.cell 0 _ rfl) (And.intro (b2.cell 1 _ rfl) (And.intro (b2.cell 2 _ rfl) (And.intro (b3.cell 0 _ rfl) (And.intro (b3.cell 1 _ rfl) (b3.cell 2 _ rfl)))))))))))); clear hb)
      | (go_at_call 32; have hK9 := K10; clear hK9; with_reducible refine (radd_v f0 f2 (by omega) (by omega)).mono ?_; rintro e v18 ⟨s11, A11, n11, c11, D11, m11, e11, rfl, g11, hb⟩; have f0 := f0.below hb; have f1 := f1.below hb; have f2 := f2.below hb; have g3 := g3.below hb; have b0 := b0.below hb; have b1 := b1.below hb; have b2 := b2.below hb; have b3 := b3.below hb; have H0 := H0.trans (hb.mono H0.size); have K11 := (And.intro (b0.cell 0 _ rfl) (And.intro (b0.cell 1 _ rfl) (And.intro (b0.cell 2 _ rfl) (And.intro (b1.cell 0 _ rfl) (And.intro (b1.cell 1 _ rfl) (And.intro (b1.cell 2 _ rfl) (And.intro (b2.cell 0 _ rfl) (And.intro (b2.cell 1 _ rfl) (And.intro (b2.cell 2 _ rfl) (And.intro (b3.cell 0 _ rfl) (And.intro (b3.cell 1 _ rfl) (b3.cell 2 _ rfl)))))))))))); clear hb)
      | (go_at_call 23; have hK9 := K9; clear hK9; with_reducible refine (rcmp_v g7.rq g10.rq (by omega) (by omega) E3.out).mono ?_; rintro e v17 ⟨rfl, hb⟩; have f0 := f0.below hb; have f1 := f1.below hb; have f2 := f2.below hb; have g3 := g3.below hb; have g7 := g7.below hb; have g10 := g10.below hb; have b0 := b0.below hb; have b1 := b1.below hb; have b2 := b2.below hb; have b3 := b3.below hb; have H0 := H0.trans (hb.mono H0.size); clear g7; clear g10; have K10 := (And.intro (b0.cell 0 _ rfl) (And.intro (b0.cell 1 _ rfl) (And.intro (b0.cell 2 _ rfl) (And.intro (b1.cell 0 _ rfl) (And.intro (b1.cell 1 _ rfl) (And.intro (b1.cell 2 _ rfl) (And.intro (b2.cell 0 _ rfl) (And.intro (b2.cell 1 _ rfl) (And.intro (b2.cell 2 _ rfl) (And.intro (b3.cell 0 _ rfl) (And.intro (b3.cell 1 _ rfl) (b3.cell 2 _ rfl)))))))))))); clear hb)
      | (go_at_call 32; have hK9 := K8; clear hK9; with_reducible refine (radd_v g8.rq g9.rq (by omega) (by omega)).mono ?_; rintro e v16 ⟨s10, A10, n10, c10, D10, m10, e10, rfl, g10, hb⟩; have f0 := f0.below hb; have f1 := f1.below hb; have f2 := f2.below hb; have g3 := g3.below hb; have g7 := g7.below hb; have g8 := g8.below hb; have g9 := g9.below hb; have b0 := b0.below hb; have b1 := b1.below hb; have b2 := b2.below hb; have b3 := b3.below hb; have H0 := H0.trans (hb.mono H0.size); clear g8; clear g9; have K9 := (And.intro (b0.cell 0 _ rfl) (And.intro (b0.cell 1 _ rfl) (And.intro (b0.cell 2 _ rfl) (And.intro (b1.cell 0 _ rfl) (And.intro (b1.cell 1 _ rfl) (And.intro (b1.cell 2 _ rfl) (And.intro (b2.cell 0 _ rfl) (And.intro (b2.cell 1 _ rfl) (And.intro (b2.cell 2 _ rfl) (And.intro (b3.cell 0 _ rfl) (And.intro (b3.cell 1 _ rfl) (b3.cell 2 _ rfl)))))))))))); clear hb)
      | (go_at_call 36; have hK9 := K7; clear hK9; with_reducible refine (rmul_v f0 f2 (by omega) (by omega)).mono ?_; rintro e v15 ⟨s9, A9, n9, c9, D9, m9, e9, rfl, g9, hb⟩; have f0 := f0.below hb; have f1 := f1.below hb; have f2 := f2.below hb; have g3 := g3.below hb; have g7 := g7.below hb; have g8 := g8.below hb; have b0 := b0.below hb; have b1 := b1.below hb; have b2 := b2.below hb; have b3 := b3.below hb; have H0 := H0.trans (hb.mono H0.size); have K8 := (And.intro (b0.cell 0 _ rfl) (And.intro (b0.cell 1 _ rfl) (And.intro (b0.cell 2 _ rfl) (And.intro (b1.cell 0 _ rfl) (And.intro (b1.cell 1 _ rfl) (And.intro (b1.cell 2 _ rfl) (And.intro (b2.cell 0 _ rfl) (And.intro (b2.cell 1 _ rfl) (And.intro (b2.cell 2 _ rfl) (And.intro (b3.cell 0 _ rfl) (And.intro (b3.cell 1 _ rfl) (b3.cell 2 _ rfl)))))))))))); clear hb)
      | (go_at_call 36; have hK9 := K6; clear hK9; with_reducible refine (rmul_v f0 f1 (by omega) (by omega)).mono ?_; rintro e v14 ⟨s8, A8, n8, c8, D8, m8, e8, rfl, g8, hb⟩; have f0 := f0.below hb; have f1 := f1.below hb; have f2 := f2.below hb; have g3 := g3.below hb; have g7 := g7.below hb; have b0 := b0.below hb; have b1 := b1.below hb; have b2 := b2.below hb; have b3 := b3.below hb; have H0 := H0.trans (hb.mono H0.size); have K7 := (And.intro (b0.cell 0 _ rfl) (And.intro (b0.cell 1 _ rfl) (And.intro (b0.cell 2 _ rfl) (And.intro (b1.cell 0 _ rfl) (And.intro (b1.cell 1 _ rfl) (And.intro (b1.cell 2 _ rfl) (And.intro (b2.cell 0 _ rfl) (And.intro (b2.cell 1 _ rfl) (And.intro (b2.cell 2 _ rfl) (And.intro (b3.cell 0 _ rfl) (And.intro (b3.cell 1 _ rfl) (b3.cell 2 _ rfl)))))))))))); clear hb)
      | (go_at_call 36; have hK9 := K5; clear hK9; with_reducible refine (rmul_v f0 g6.rq (by omega) (by omega)).mono ?_; rintro e v13 ⟨s7, A7, n7, c7, D7, m7, e7, rfl, g7, hb⟩; have f0 := f0.below hb; have f1 := f1.below hb; have f2 := f2.below hb; have g3 := g3.below hb; have g6 := g6.below hb; have b0 := b0.below hb; have b1 := b1.below hb; have b2 := b2.below hb; have b3 := b3.below hb; have H0 := H0.trans (hb.mono H0.size); clear g6; have K6 := (And.intro (b0.cell 0 _ rfl) (And.intro (b0.cell 1 _ rfl) (And.intro (b0.cell 2 _ rfl) (And.intro (b1.cell 0 _ rfl) (And.intro (b1.cell 1 _ rfl) (And.intro (b1.cell 2 _ rfl) (And.intro (b2.cell 0 _ rfl) (And.intro (b2.cell 1 _ rfl) (And.intro (b2.cell 2 _ rfl) (And.intro (b3.cell 0 _ rfl) (And.intro (b3.cell 1 _ rfl) (b3.cell 2 _ rfl)))))))))))); clear hb)
      | (go_at_call 32; have hK9 := K4; clear hK9; with_reducible refine (radd_v f1 f2 (by omega) (by omega)).mono ?_; rintro e v12 ⟨s6, A6, n6, c6, D6, m6, e6, rfl, g6, hb⟩; have f0 := f0.below hb; have f1 := f1.below hb; have f2 := f2.below hb; have g3 := g3.below hb; have b0 := b0.below hb; have b1 := b1.below hb; have b2 := b2.below hb; have b3 := b3.below hb; have H0 := H0.trans (hb.mono H0.size); have K5 := (And.intro (b0.cell 0 _ rfl) (And.intro (b0.cell 1 _ rfl) (And.intro (b0.cell 2 _ rfl) (And.intro (b1.cell 0 _ rfl) (And.intro (b1.cell 1 _ rfl) (And.intro (b1.cell 2 _ rfl) (And.intro (b2.cell 0 _ rfl) (And.intro (b2.cell 1 _ rfl) (And.intro (b2.cell 2 _ rfl) (And.intro (b3.cell 0 _ rfl) (And.intro (b3.cell 1 _ rfl) (b3.cell 2 _ rfl)))))))))))); clear hb)
      | (go_at_call 23; have hK9 := K3; clear hK9; with_reducible refine (rcmp_v g5.rq f0 (by omega) (by omega) E2.out).mono ?_; rintro e v11 ⟨rfl, hb⟩; have f0 := f0.below hb; have f1 := f1.below hb; have f2 := f2.below hb; have g3 := g3.below hb; have g5 := g5.below hb; have b0 := b0.below hb; have b1 := b1.below hb; have b2 := b2.below hb; have b3 := b3.below hb; have H0 := H0.trans (hb.mono H0.size); clear g5; have K4 := (And.intro (b0.cell 0 _ rfl) (And.intro (b0.cell 1 _ rfl) (And.intro (b0.cell 2 _ rfl) (And.intro (b1.cell 0 _ rfl) (And.intro (b1.cell 1 _ rfl) (And.intro (b1.cell 2 _ rfl) (And.intro (b2.cell 0 _ rfl) (And.intro (b2.cell 1 _ rfl) (And.intro (b2.cell 2 _ rfl) (And.intro (b3.cell 0 _ rfl) (And.intro (b3.cell 1 _ rfl) (b3.cell 2 _ rfl)))))))))))); clear hb)
      | (go_at_call 34; have hK9 := K2; clear hK9; with_reducible refine (rsub_v g3.rq f1 (by omega) (by omega)).mono ?_; rintro e v10 ⟨s5, A5, n5, c5, D5, m5, e5, rfl, g5, hb⟩; have f0 := f0.below hb; have f1 := f1.below hb; have f2 := f2.below hb; have g3 := g3.below hb; have b0 := b0.below hb; have b1 := b1.below hb; have b2 := b2.below hb; have b3 := b3.below hb; have H0 := H0.trans (hb.mono H0.size); have K3 := (And.intro (b0.cell 0 _ rfl) (And.intro (b0.cell 1 _ rfl) (And.intro (b0.cell 2 _ rfl) (And.intro (b1.cell 0 _ rfl) (And.intro (b1.cell 1 _ rfl) (And.intro (b1.cell 2 _ rfl) (And.intro (b2.cell 0 _ rfl) (And.intro (b2.cell 1 _ rfl) (And.intro (b2.cell 2 _ rfl) (And.intro (b3.cell 0 _ rfl) (And.intro (b3.cell 1 _ rfl) (b3.cell 2 _ rfl)))))))))))); clear hb)
      | (go_at_call 23; have hK9 := K1; clear hK9; with_reducible refine (rcmp_v g3.rq g4.rq (by omega) (by omega) E1.out).mono ?_; rintro e v9 ⟨rfl, hb⟩; have f0 := f0.below hb; have f1 := f1.below hb; have f2 := f2.below hb; have g3 := g3.below hb; have g4 := g4.below hb; have b0 := b0.below hb; have b1 := b1.below hb; have b2 := b2.below hb; have b3 := b3.below hb; have H0 := H0.trans (hb.mono H0.size); clear g4; have K2 := (And.intro (b0.cell 0 _ rfl) (And.intro (b0.cell 1 _ rfl) (And.intro (b0.cell 2 _ rfl) (And.intro (b1.cell 0 _ rfl) (And.intro (b1.cell 1 _ rfl) (And.intro (b1.cell 2 _ rfl) (And.intro (b2.cell 0 _ rfl) (And.intro (b2.cell 1 _ rfl) (And.intro (b2.cell 2 _ rfl) (And.intro (b3.cell 0 _ rfl) (And.intro (b3.cell 1 _ rfl) (b3.cell 2 _ rfl)))))))))))); clear hb)
      | (go_at_call 32; have hK9 := K0; clear hK9; with_reducible refine (radd_v f1 f0 (by omega) (by omega)).mono ?_; rintro e v8 ⟨s4, A4, n4, c4, D4, m4, e4, rfl, g4, hb⟩; have f0 := f0.below hb; have f1 := f1.below hb; have f2 := f2.below hb; have g3 := g3.below hb; have b0 := b0.below hb; have b1 := b1.below hb; have b2 := b2.below hb; have b3 := b3.below hb; have H0 := H0.trans (hb.mono H0.size); have K1 := (And.intro (b0.cell 0 _ rfl) (And.intro (b0.cell 1 _ rfl) (And.intro (b0.cell 2 _ rfl) (And.intro (b1.cell 0 _ rfl) (And.intro (b1.cell 1 _ rfl) (And.intro (b1.cell 2 _ rfl) (And.intro (b2.cell 0 _ rfl) (And.intro (b2.cell 1 _ rfl) (And.intro (b2.cell 2 _ rfl) (And.intro (b3.cell 0 _ rfl) (And.intro (b3.cell 1 _ rfl) (b3.cell 2 _ rfl)))))))))))); clear hb)
    )
  clear g3
  clear f2
  have cb00 := b0.cell 0 _ rfl
  have cb01 := b0.cell 1 _ rfl
  have cb02 := b0.cell 2 _ rfl
  have cb10 := b1.cell 0 _ rfl
  have cb11 := b1.cell 1 _ rfl
  have cb12 := b1.cell 2 _ rfl
  go_wp2_with fail
  rcases Decidable.em (q1 = 0) with h0 | h0
  · subst h0
    clear cb00 cb01 cb02 cb10 cb11 cb12
    refine (rdiv_zero f0 f1).mono ?_
    rintro e w22 ⟨s13, A13, n13, c13, D13, m13, e13, rfl, g13, hb⟩
    replace f0 := f0.below hb
    replace f1 := f1.below hb
    replace b0 := b0.below hb
    replace b1 := b1.below hb
    replace b2 := b2.below hb
    replace b3 := b3.below hb
    replace H0 := H0.trans (hb.mono H0.size)
    clear hb
    have lb0_23 := b0.lt
    have lb1_23 := b1.lt
    have lb2_23 := b2.lt
    have lb3_23 := b3.lt
    obtain ⟨W23, hW, b5, hbW, hszW23⟩ := boxes1 w22 #[.bool s13, .slice A13 n13 c13, .slice D13 m13 e13] 27
    skip
    skip
    replace f0 := f0.below hbW
    replace f1 := f1.below hbW
    replace g13 := g13.below hbW
    replace b0 := b0.below hbW
    replace b1 := b1.below hbW
    replace b2 := b2.below hbW
    replace b3 := b3.below hbW
    replace H0 := H0.trans (hbW.mono H0.size)
    clear hbW
    clear g13
    go_wp2_with fail
    clear hW
    have hD := drawn_below W23
    replace f0 := f0.below hD
    replace f1 := f1.below hD
    replace b0 := b0.below hD
    replace b1 := b1.below hD
    replace b2 := b2.below hD
    replace b3 := b3.below hD
    replace b5 := b5.below hD
    replace H0 := H0.trans (hD.mono H0.size)
    clear hD
    go_region
    have cb00 := b0.cell 0 _ rfl
    have cb01 := b0.cell 1 _ rfl
    have cb02 := b0.cell 2 _ rfl
    have cb10 := b1.cell 0 _ rfl
    have cb11 := b1.cell 1 _ rfl
    have cb12 := b1.cell 2 _ rfl
    go_wp2_with fail
    try clear hW
    clear cb00 cb01 cb02 cb10 cb11 cb12
    refine (rmiddle_v f0 f1 (by omega) (by omega)).mono ?_
    rintro e w24 ⟨s14, A14, n14, c14, D14, m14, e14, rfl, g14, hb⟩
    replace f0 := f0.below hb
    replace f1 := f1.below hb
    replace b0 := b0.below hb
    replace b1 := b1.below hb
    replace b2 := b2.below hb
    replace b3 := b3.below hb
    replace b5 := b5.below hb
    replace H0 := H0.trans (hb.mono H0.size)
    clear hb
    have lb0_25 := b0.lt
    have lb1_25 := b1.lt
    have lb2_25 := b2.lt
    have lb3_25 := b3.lt
    have lb5_25 := b5.lt
    obtain ⟨W25, hW, b4, hbW, hszW25⟩ := boxes1 w24 #[.bool s14, .slice A14 n14 c14, .slice D14 m14 e14] 27
    skip
    skip
    replace f0 := f0.below hbW
    replace f1 := f1.below hbW
    replace g14 := g14.below hbW
    replace b0 := b0.below hbW
    replace b1 := b1.below hbW
    replace b2 := b2.below hbW
    replace b3 := b3.below hbW
    replace b5 := b5.below hbW
    replace H0 := H0.trans (hbW.mono H0.size)
    clear hbW
    go_wp2_with fail
    clear hW
    have hD := drawn_below W25
    replace f0 := f0.below hD
    replace f1 := f1.below hD
    replace g14 := g14.below hD
    replace b0 := b0.below hD
    replace b1 := b1.below hD
    replace b2 := b2.below hD
    replace b3 := b3.below hD
    replace b5 := b5.below hD
    replace b4 := b4.below hD
    replace H0 := H0.trans (hD.mono H0.size)
    clear hD
    have K0 := (And.intro (b0.cell 0 _ rfl) (And.intro (b0.cell 1 _ rfl) (And.intro (b0.cell 2 _ rfl) (And.intro (b1.cell 0 _ rfl) (And.intro (b1.cell 1 _ rfl) (And.intro (b1.cell 2 _ rfl) (And.intro (b4.cell 0 _ rfl) (And.intro (b4.cell 1 _ rfl) (b4.cell 2 _ rfl)))))))))
    go_region_held3 (fun V => V.cell? ⟨w4.heap.size, 0, none⟩ = some (.bool s0) ∧ V.cell? ⟨w4.heap.size, 1, none⟩ = some (.slice A0 n0 c0) ∧ V.cell? ⟨w4.heap.size, 2, none⟩ = some (.slice D0 m0 e0) ∧ V.cell? ⟨w4.heap.size + 1, 0, none⟩ = some (.bool s1) ∧ V.cell? ⟨w4.heap.size + 1, 1, none⟩ = some (.slice A1 n1 c1) ∧ V.cell? ⟨w4.heap.size + 1, 2, none⟩ = some (.slice D1 m1 e1) ∧ V.cell? ⟨w24.heap.size, 0, none⟩ = some (.bool s14) ∧ V.cell? ⟨w24.heap.size, 1, none⟩ = some (.slice A14 n14 c14) ∧ V.cell? ⟨w24.heap.size, 2, none⟩ = some (.slice D14 m14 e14)) (first | exact K5 | exact K4 | exact K3 | exact K2 | exact K1 | exact K0 | go_keep)
      (first
        | (go_at_call 23; have hK9 := K4; clear hK9; with_reducible refine (rcmp_v f0 f1 (by omega) (by omega) HQ.out).mono ?_; rintro e v30 ⟨rfl, hb⟩; have f0 := f0.below hb; have f1 := f1.below hb; have g14 := g14.below hb; have b0 := b0.below hb; have b1 := b1.below hb; have b2 := b2.below hb; have b3 := b3.below hb; have b5 := b5.below hb; have b4 := b4.below hb; have H0 := H0.trans (hb.mono H0.size); have K5 := (And.intro (b0.cell 0 _ rfl) (And.intro (b0.cell 1 _ rfl) (And.intro (b0.cell 2 _ rfl) (And.intro (b1.cell 0 _ rfl) (And.intro (b1.cell 1 _ rfl) (And.intro (b1.cell 2 _ rfl) (And.intro (b4.cell 0 _ rfl) (And.intro (b4.cell 1 _ rfl) (b4.cell 2 _ rfl))))))))); clear hb)
        | (go_at_call 23; have hK9 := K3; clear hK9; with_reducible refine (rcmp_v f0 g14.rq (by omega) (by omega) E5.out).mono ?_; rintro e v29 ⟨rfl, hb⟩; have f0 := f0.below hb; have f1 := f1.below hb; have g14 := g14.below hb; have b0 := b0.below hb; have b1 := b1.below hb; have b2 := b2.below hb; have b3 := b3.below hb; have b5 := b5.below hb; have b4 := b4.below hb; have H0 := H0.trans (hb.mono H0.size); have K4 := (And.intro (b0.cell 0 _ rfl) (And.intro (b0.cell 1 _ rfl) (And.intro (b0.cell 2 _ rfl) (And.intro (b1.cell 0 _ rfl) (And.intro (b1.cell 1 _ rfl) (And.intro (b1.cell 2 _ rfl) (And.intro (b4.cell 0 _ rfl) (And.intro (b4.cell 1 _ rfl) (b4.cell 2 _ rfl))))))))); clear hb)
        | (go_at_call 23; have hK9 := K2; clear hK9; with_reducible refine (rcmp_v g14.rq f1 (by omega) (by omega) E6.out).mono ?_; rintro e v28 ⟨rfl, hb⟩; have f0 := f0.below hb; have f1 := f1.below hb; have g14 := g14.below hb; have b0 := b0.below hb; have b1 := b1.below hb; have b2 := b2.below hb; have b3 := b3.below hb; have b5 := b5.below hb; have b4 := b4.below hb; have H0 := H0.trans (hb.mono H0.size); have K3 := (And.intro (b0.cell 0 _ rfl) (And.intro (b0.cell 1 _ rfl) (And.intro (b0.cell 2 _ rfl) (And.intro (b1.cell 0 _ rfl) (And.intro (b1.cell 1 _ rfl) (And.intro (b1.cell 2 _ rfl) (And.intro (b4.cell 0 _ rfl) (And.intro (b4.cell 1 _ rfl) (b4.cell 2 _ rfl))))))))); clear hb)
        | (go_at_call 23; have hK9 := K1; clear hK9; with_reducible refine (rcmp_v f0 g14.rq (by omega) (by omega) E5.out).mono ?_; rintro e v27 ⟨rfl, hb⟩; have f0 := f0.below hb; have f1 := f1.below hb; have g14 := g14.below hb; have b0 := b0.below hb; have b1 := b1.below hb; have b2 := b2.below hb; have b3 := b3.below hb; have b5 := b5.below hb; have b4 := b4.below hb; have H0 := H0.trans (hb.mono H0.size); have K2 := (And.intro (b0.cell 0 _ rfl) (And.intro (b0.cell 1 _ rfl) (And.intro (b0.cell 2 _ rfl) (And.intro (b1.cell 0 _ rfl) (And.intro (b1.cell 1 _ rfl) (And.intro (b1.cell 2 _ rfl) (And.intro (b4.cell 0 _ rfl) (And.intro (b4.cell 1 _ rfl) (b4.cell 2 _ rfl))))))))); clear hb)
        | (go_at_call 10; have hK9 := K0; clear hK9; with_reducible refine (HK.out _ H0).mono ?_; rintro e v26 ⟨rfl, hb⟩; have f0 := f0.below hb; have f1 := f1.below hb; have g14 := g14.below hb; have b0 := b0.below hb; have b1 := b1.below hb; have b2 := b2.below hb; have b3 := b3.below hb; have b5 := b5.below hb; have b4 := b4.below hb; have H0 := H0.trans (hb.mono H0.size); have K1 := (And.intro (b0.cell 0 _ rfl) (And.intro (b0.cell 1 _ rfl) (And.intro (b0.cell 2 _ rfl) (And.intro (b1.cell 0 _ rfl) (And.intro (b1.cell 1 _ rfl) (And.intro (b1.cell 2 _ rfl) (And.intro (b4.cell 0 _ rfl) (And.intro (b4.cell 1 _ rfl) (b4.cell 2 _ rfl))))))))); clear hb)
      )
    go_wp2_with fail
    go_returns
    exact ⟨rfl, H0⟩
  · have E7 := Lib.hid (rsg_of (Rat.div_mul_cancel h0 : q0 / q1 * q1 = q0))
    clear cb00 cb01 cb02 cb10 cb11 cb12
    refine (rdiv_v f0 f1 (by omega) (by omega) h0).mono ?_
    rintro e w22 ⟨s13, A13, n13, c13, D13, m13, e13, rfl, g13, hb⟩
    replace f0 := f0.below hb
    replace f1 := f1.below hb
    replace b0 := b0.below hb
    replace b1 := b1.below hb
    replace b2 := b2.below hb
    replace b3 := b3.below hb
    replace H0 := H0.trans (hb.mono H0.size)
    clear hb
    have lb0_23 := b0.lt
    have lb1_23 := b1.lt
    have lb2_23 := b2.lt
    have lb3_23 := b3.lt
    obtain ⟨W23, hW, b5, hbW, hszW23⟩ := boxes1 w22 #[.bool s13, .slice A13 n13 c13, .slice D13 m13 e13] 27
    skip
    skip
    replace f0 := f0.below hbW
    replace f1 := f1.below hbW
    replace g13 := g13.below hbW
    replace b0 := b0.below hbW
    replace b1 := b1.below hbW
    replace b2 := b2.below hbW
    replace b3 := b3.below hbW
    replace H0 := H0.trans (hbW.mono H0.size)
    clear hbW
    have cb00 := b0.cell 0 _ rfl
    have cb01 := b0.cell 1 _ rfl
    have cb02 := b0.cell 2 _ rfl
    have cb10 := b1.cell 0 _ rfl
    have cb11 := b1.cell 1 _ rfl
    have cb12 := b1.cell 2 _ rfl
    go_wp2_with fail
    clear hW
    clear cb00 cb01 cb02 cb10 cb11 cb12
    have hD := drawn_below W23
    replace f0 := f0.below hD
    replace f1 := f1.below hD
    replace g13 := g13.below hD
    replace b0 := b0.below hD
    replace b1 := b1.below hD
    replace b2 := b2.below hD
    replace b3 := b3.below hD
    replace b5 := b5.below hD
    replace H0 := H0.trans (hD.mono H0.size)
    clear hD
    have K0 := (And.intro (b0.cell 0 _ rfl) (And.intro (b0.cell 1 _ rfl) (And.intro (b0.cell 2 _ rfl) (And.intro (b1.cell 0 _ rfl) (And.intro (b1.cell 1 _ rfl) (And.intro (b1.cell 2 _ rfl) (And.intro (b5.cell 0 _ rfl) (And.intro (b5.cell 1 _ rfl) (b5.cell 2 _ rfl)))))))))
    go_region_held3 (fun V => V.cell? ⟨w4.heap.size, 0, none⟩ = some (.bool s0) ∧ V.cell? ⟨w4.heap.size, 1, none⟩ = some (.slice A0 n0 c0) ∧ V.cell? ⟨w4.heap.size, 2, none⟩ = some (.slice D0 m0 e0) ∧ V.cell? ⟨w4.heap.size + 1, 0, none⟩ = some (.bool s1) ∧ V.cell? ⟨w4.heap.size + 1, 1, none⟩ = some (.slice A1 n1 c1) ∧ V.cell? ⟨w4.heap.size + 1, 2, none⟩ = some (.slice D1 m1 e1) ∧ V.cell? ⟨w22.heap.size, 0, none⟩ = some (.bool s13) ∧ V.cell? ⟨w22.heap.size, 1, none⟩ = some (.slice A13 n13 c13) ∧ V.cell? ⟨w22.heap.size, 2, none⟩ = some (.slice D13 m13 e13)) (first | exact K2 | exact K1 | exact K0 | go_keep)
      (first
        | (go_at_call 23; have hK9 := K1; clear hK9; with_reducible refine (rcmp_v g15.rq f0 (by omega) (by omega) E7.out).mono ?_; rintro e v25 ⟨rfl, hb⟩; have f0 := f0.below hb; have f1 := f1.below hb; have g13 := g13.below hb; have g15 := g15.below hb; have b0 := b0.below hb; have b1 := b1.below hb; have b2 := b2.below hb; have b3 := b3.below hb; have b5 := b5.below hb; have H0 := H0.trans (hb.mono H0.size); clear g15; have K2 := (And.intro (b0.cell 0 _ rfl) (And.intro (b0.cell 1 _ rfl) (And.intro (b0.cell 2 _ rfl) (And.intro (b1.cell 0 _ rfl) (And.intro (b1.cell 1 _ rfl) (And.intro (b1.cell 2 _ rfl) (And.intro (b5.cell 0 _ rfl) (And.intro (b5.cell 1 _ rfl) (b5.cell 2 _ rfl))))))))); clear hb)
        | (go_at_call 36; have hK9 := K0; clear hK9; with_reducible refine (rmul_v g13.rq f1 (by omega) (by omega)).mono ?_; rintro e v24 ⟨s15, A15, n15, c15, D15, m15, e15, rfl, g15, hb⟩; have f0 := f0.below hb; have f1 := f1.below hb; have g13 := g13.below hb; have b0 := b0.below hb; have b1 := b1.below hb; have b2 := b2.below hb; have b3 := b3.below hb; have b5 := b5.below hb; have H0 := H0.trans (hb.mono H0.size); have K1 := (And.intro (b0.cell 0 _ rfl) (And.intro (b0.cell 1 _ rfl) (And.intro (b0.cell 2 _ rfl) (And.intro (b1.cell 0 _ rfl) (And.intro (b1.cell 1 _ rfl) (And.intro (b1.cell 2 _ rfl) (And.intro (b5.cell 0 _ rfl) (And.intro (b5.cell 1 _ rfl) (b5.cell 2 _ rfl))))))))); clear hb)
      )
    have cb00 := b0.cell 0 _ rfl
    have cb01 := b0.cell 1 _ rfl
    have cb02 := b0.cell 2 _ rfl
    have cb10 := b1.cell 0 _ rfl
    have cb11 := b1.cell 1 _ rfl
    have cb12 := b1.cell 2 _ rfl
    go_wp2_with fail
    try clear hW
    clear cb00 cb01 cb02 cb10 cb11 cb12
    refine (rmiddle_v f0 f1 (by omega) (by omega)).mono ?_
    rintro e w26 ⟨s14, A14, n14, c14, D14, m14, e14, rfl, g14, hb⟩
    replace f0 := f0.below hb
    replace f1 := f1.below hb
    replace g13 := g13.below hb
    replace b0 := b0.below hb
    replace b1 := b1.below hb
    replace b2 := b2.below hb
    replace b3 := b3.below hb
    replace b5 := b5.below hb
    replace H0 := H0.trans (hb.mono H0.size)
    clear hb
    have lb0_27 := b0.lt
    have lb1_27 := b1.lt
    have lb2_27 := b2.lt
    have lb3_27 := b3.lt
    have lb5_27 := b5.lt
    obtain ⟨W27, hW, b4, hbW, hszW27⟩ := boxes1 w26 #[.bool s14, .slice A14 n14 c14, .slice D14 m14 e14] 27
    skip
    skip
    replace f0 := f0.below hbW
    replace f1 := f1.below hbW
    replace g13 := g13.below hbW
    replace g14 := g14.below hbW
    replace b0 := b0.below hbW
    replace b1 := b1.below hbW
    replace b2 := b2.below hbW
    replace b3 := b3.below hbW
    replace b5 := b5.below hbW
    replace H0 := H0.trans (hbW.mono H0.size)
    clear hbW
    go_wp2_with fail
    clear hW
    have hD := drawn_below W27
    replace f0 := f0.below hD
    replace f1 := f1.below hD
    replace g13 := g13.below hD
    replace g14 := g14.below hD
    replace b0 := b0.below hD
    replace b1 := b1.below hD
    replace b2 := b2.below hD
    replace b3 := b3.below hD
    replace b5 := b5.below hD
    replace b4 := b4.below hD
    replace H0 := H0.trans (hD.mono H0.size)
    clear hD
    have K0 := (And.intro (b0.cell 0 _ rfl) (And.intro (b0.cell 1 _ rfl) (And.intro (b0.cell 2 _ rfl) (And.intro (b1.cell 0 _ rfl) (And.intro (b1.cell 1 _ rfl) (And.intro (b1.cell 2 _ rfl) (And.intro (b4.cell 0 _ rfl) (And.intro (b4.cell 1 _ rfl) (b4.cell 2 _ rfl)))))))))
    go_region_held3 (fun V => V.cell? ⟨w4.heap.size, 0, none⟩ = some (.bool s0) ∧ V.cell? ⟨w4.heap.size, 1, none⟩ = some (.slice A0 n0 c0) ∧ V.cell? ⟨w4.heap.size, 2, none⟩ = some (.slice D0 m0 e0) ∧ V.cell? ⟨w4.heap.size + 1, 0, none⟩ = some (.bool s1) ∧ V.cell? ⟨w4.heap.size + 1, 1, none⟩ = some (.slice A1 n1 c1) ∧ V.cell? ⟨w4.heap.size + 1, 2, none⟩ = some (.slice D1 m1 e1) ∧ V.cell? ⟨w26.heap.size, 0, none⟩ = some (.bool s14) ∧ V.cell? ⟨w26.heap.size, 1, none⟩ = some (.slice A14 n14 c14) ∧ V.cell? ⟨w26.heap.size, 2, none⟩ = some (.slice D14 m14 e14)) (first | exact K5 | exact K4 | exact K3 | exact K2 | exact K1 | exact K0 | go_keep)
      (first
        | (go_at_call 23; have hK9 := K4; clear hK9; with_reducible refine (rcmp_v f0 f1 (by omega) (by omega) HQ.out).mono ?_; rintro e v32 ⟨rfl, hb⟩; have f0 := f0.below hb; have f1 := f1.below hb; have g13 := g13.below hb; have g14 := g14.below hb; have b0 := b0.below hb; have b1 := b1.below hb; have b2 := b2.below hb; have b3 := b3.below hb; have b5 := b5.below hb; have b4 := b4.below hb; have H0 := H0.trans (hb.mono H0.size); have K5 := (And.intro (b0.cell 0 _ rfl) (And.intro (b0.cell 1 _ rfl) (And.intro (b0.cell 2 _ rfl) (And.intro (b1.cell 0 _ rfl) (And.intro (b1.cell 1 _ rfl) (And.intro (b1.cell 2 _ rfl) (And.intro (b4.cell 0 _ rfl) (And.intro (b4.cell 1 _ rfl) (b4.cell 2 _ rfl))))))))); clear hb)
        | (go_at_call 23; have hK9 := K3; clear hK9; with_reducible refine (rcmp_v f0 g14.rq (by omega) (by omega) E5.out).mono ?_; rintro e v31 ⟨rfl, hb⟩; have f0 := f0.below hb; have f1 := f1.below hb; have g13 := g13.below hb; have g14 := g14.below hb; have b0 := b0.below hb; have b1 := b1.below hb; have b2 := b2.below hb; have b3 := b3.below hb; have b5 := b5.below hb; have b4 := b4.below hb; have H0 := H0.trans (hb.mono H0.size); have K4 := (And.intro (b0.cell 0 _ rfl) (And.intro (b0.cell 1 _ rfl) (And.intro (b0.cell 2 _ rfl) (And.intro (b1.cell 0 _ rfl) (And.intro (b1.cell 1 _ rfl) (And.intro (b1.cell 2 _ rfl) (And.intro (b4.cell 0 _ rfl) (And.intro (b4.cell 1 _ rfl) (b4.cell 2 _ rfl))))))))); clear hb)
        | (go_at_call 23; have hK9 := K2; clear hK9; with_reducible refine (rcmp_v g14.rq f1 (by omega) (by omega) E6.out).mono ?_; rintro e v30 ⟨rfl, hb⟩; have f0 := f0.below hb; have f1 := f1.below hb; have g13 := g13.below hb; have g14 := g14.below hb; have b0 := b0.below hb; have b1 := b1.below hb; have b2 := b2.below hb; have b3 := b3.below hb; have b5 := b5.below hb; have b4 := b4.below hb; have H0 := H0.trans (hb.mono H0.size); have K3 := (And.intro (b0.cell 0 _ rfl) (And.intro (b0.cell 1 _ rfl) (And.intro (b0.cell 2 _ rfl) (And.intro (b1.cell 0 _ rfl) (And.intro (b1.cell 1 _ rfl) (And.intro (b1.cell 2 _ rfl) (And.intro (b4.cell 0 _ rfl) (And.intro (b4.cell 1 _ rfl) (b4.cell 2 _ rfl))))))))); clear hb)
        | (go_at_call 23; have hK9 := K1; clear hK9; with_reducible refine (rcmp_v f0 g14.rq (by omega) (by omega) E5.out).mono ?_; rintro e v29 ⟨rfl, hb⟩; have f0 := f0.below hb; have f1 := f1.below hb; have g13 := g13.below hb; have g14 := g14.below hb; have b0 := b0.below hb; have b1 := b1.below hb; have b2 := b2.below hb; have b3 := b3.below hb; have b5 := b5.below hb; have b4 := b4.below hb; have H0 := H0.trans (hb.mono H0.size); have K2 := (And.intro (b0.cell 0 _ rfl) (And.intro (b0.cell 1 _ rfl) (And.intro (b0.cell 2 _ rfl) (And.intro (b1.cell 0 _ rfl) (And.intro (b1.cell 1 _ rfl) (And.intro (b1.cell 2 _ rfl) (And.intro (b4.cell 0 _ rfl) (And.intro (b4.cell 1 _ rfl) (b4.cell 2 _ rfl))))))))); clear hb)
        | (go_at_call 10; have hK9 := K0; clear hK9; with_reducible refine (HK.out _ H0).mono ?_; rintro e v28 ⟨rfl, hb⟩; have f0 := f0.below hb; have f1 := f1.below hb; have g13 := g13.below hb; have g14 := g14.below hb; have b0 := b0.below hb; have b1 := b1.below hb; have b2 := b2.below hb; have b3 := b3.below hb; have b5 := b5.below hb; have b4 := b4.below hb; have H0 := H0.trans (hb.mono H0.size); have K1 := (And.intro (b0.cell 0 _ rfl) (And.intro (b0.cell 1 _ rfl) (And.intro (b0.cell 2 _ rfl) (And.intro (b1.cell 0 _ rfl) (And.intro (b1.cell 1 _ rfl) (And.intro (b1.cell 2 _ rfl) (And.intro (b4.cell 0 _ rfl) (And.intro (b4.cell 1 _ rfl) (b4.cell 2 _ rfl))))))))); clear hb)
      )
    go_wp2_with fail
    go_returns
    exact ⟨rfl, H0⟩
end
end Go.Proofs.YtkhfadfjkmhpgaaGreatDoor
