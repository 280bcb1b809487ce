/-
  The walk of the law IntegerRing, out of the contracts of what it calls.
-/
import Derived.Test.YtacfdcfkfjildaaDoorCmpI
namespace Go.Proofs.YtacfdcfkfjildaaDoor
open Go.RowKit

set_option maxRecDepth 100000 in
set_option maxHeartbeats 8000000 in
theorem integerring_any {v : Value} {w : World} (HI : Ints w v) : Calls Tryd.prog 12 #[v] w fun e w' => e = .returned (.bool true) ∧ Below w.heap.size w w' := by
  go_enter Tryd.func12, Tryd.ntmps12
  go_wp2_with fail
  refine (new_any HI).mono ?_
  rintro e w1 ⟨rfl, hT, H0, hsz⟩
  have hlt : w.heap.size < w1.heap.size := by omega
  clear hsz
  go_wp2_with fail
  refine (made_v hT hlt).mono ?_
  rintro e w2 ⟨z0, s0, B0, k0, d0, rfl, f0, hT, hg⟩
  replace hlt := Nat.lt_of_lt_of_le hlt hg.size
  replace H0 := H0.grown hg H0.size (by rintro k hk; injection hk with hk; omega)
  clear hg
  go_wp2_with fail
  refine (made_v hT hlt).mono ?_
  rintro e w3 ⟨z1, s1, B1, k1, d1, rfl, f1, hT, hg⟩
  replace f0 := f0.other hg
  replace hlt := Nat.lt_of_lt_of_le hlt hg.size
  replace H0 := H0.grown hg H0.size (by rintro k hk; injection hk with hk; omega)
  clear hg
  go_wp2_with fail
  refine (made_v hT hlt).mono ?_
  rintro e w4 ⟨z2, s2, B2, k2, d2, rfl, f2, hT, hg⟩
  replace f0 := f0.other hg
  replace f1 := f1.other hg
  replace hlt := Nat.lt_of_lt_of_le hlt hg.size
  replace H0 := H0.grown hg H0.size (by rintro k hk; injection hk with hk; omega)
  clear hg
  replace f0 := f0.ri (by omega)
  replace f1 := f1.ri (by omega)
  replace f2 := f2.ri (by omega)
  clear hT hlt
  go_wp2_with fail
  obtain ⟨W, hW, b0, b1, b2, hbW, hsz⟩ := boxes3 w4 #[.bool s0, .slice B0 k0 d0] #[.bool s1, .slice B1 k1 d1] #[.bool s2, .slice B2 k2 d2] 64 64 64
  rw [hW]
  clear hW
  replace f0 := f0.below hbW
  replace f1 := f1.below hbW
  replace f2 := f2.below hbW
  replace H0 := H0.trans (hbW.mono H0.size)
  clear hbW
  refine (iadd_v f0 f1 (by omega) (by omega)).mono ?_
  rintro e w5 ⟨s3, B3, k3, d3, rfl, f3, hb⟩
  replace f0 := f0.below hb
  replace b0 := b0.below hb
  replace f1 := f1.below hb
  replace b1 := b1.below hb
  replace f2 := f2.below hb
  replace b2 := b2.below hb
  replace H0 := H0.trans (hb.mono H0.size)
  clear hb
  go_wp2_with fail
  obtain ⟨X, hX, b3, hbX, hsX⟩ := boxes1 w5 #[.bool s3, .slice B3 k3 d3] 64
  rw [hX]
  clear hX
  replace f0 := f0.below hbX
  replace b0 := b0.below hbX
  replace f1 := f1.below hbX
  replace b1 := b1.below hbX
  replace f2 := f2.below hbX
  replace b2 := b2.below hbX
  replace f3 := f3.ri.below hbX
  replace H0 := H0.trans (hbX.mono H0.size)
  clear hbX hsX
  obtain ⟨q, hq⟩ : ∃ q, (z0 - z1).sign = q := ⟨_, rfl⟩
  have hq1 : (z1 - z0).sign = -q := by rw [← hq, ← Int.sign_neg]; congr 1; omega
  have hqb := sign_le (z0 - z1)
  rw [hq] at hqb
  have hwq : IntKind.i64.wrap (- -q) = q := by simp [IntKind.wrap, IntKind.bits, IntKind.signed]; omega
  have hwq1 : IntKind.i64.wrap q = q := by simp [IntKind.wrap, IntKind.bits, IntKind.signed]; omega
  have HQ := Lib.hid hq
  have HQ1 := Lib.hid hq1
  have e1 : z0 + z1 = z1 + z0 := Int.add_comm _ _
  have e2 : z0 + z1 - z1 = z0 := by omega
  have e3 : z0 * (z1 + z2) = z0 * z1 + z0 * z2 := Int.mul_add _ _ _
  have E1 := Lib.hid e1
  have E2 := Lib.hid e2
  have E3 := Lib.hid e3
  clear hq hq1 hqb e1 e2 e3
  go_wp2_with fail
  have hD := drawn_below X
  replace b0 : Box X.drew _ _ _ := b0
  replace f0 : RI X.drew _ _ _ _ := f0
  replace b1 : Box X.drew _ _ _ := b1
  replace f1 : RI X.drew _ _ _ _ := f1
  replace b2 : Box X.drew _ _ _ := b2
  replace f2 : RI X.drew _ _ _ _ := f2
  replace b3 : Box X.drew _ _ _ := b3
  replace f3 : RI X.drew _ _ _ _ := f3
  replace H0 : Below w.heap.size w X.drew := H0.trans (hD.mono H0.size)
  clear hD
  go_region_held3 (fun V => V.cell? ⟨w4.heap.size, 0, none⟩ = some (.bool s0) ∧ V.cell? ⟨w4.heap.size, 1, none⟩ = some (.slice B0 k0 d0) ∧ V.cell? ⟨w4.heap.size + 1, 0, none⟩ = some (.bool s1) ∧ V.cell? ⟨w4.heap.size + 1, 1, none⟩ = some (.slice B1 k1 d1) ∧ V.cell? ⟨w4.heap.size + 1 + 1, 0, none⟩ = some (.bool s2) ∧ V.cell? ⟨w4.heap.size + 1 + 1, 1, none⟩ = some (.slice B2 k2 d2) ∧ V.cell? ⟨w5.heap.size, 0, none⟩ = some (.bool s3) ∧ V.cell? ⟨w5.heap.size, 1, none⟩ = some (.slice B3 k3 d3)) (first | exact ⟨(b0).cell 0 _ rfl, (b0).cell 1 _ rfl, (b1).cell 0 _ rfl, (b1).cell 1 _ rfl, (b2).cell 0 _ rfl, (b2).cell 1 _ rfl, (b3).cell 0 _ rfl, (b3).cell 1 _ rfl⟩ | exact K12 | exact K11 | exact K10 | exact K9 | exact K8 | exact K7 | exact K6 | exact K5 | exact K4 | exact K3 | exact K2 | exact K1 | go_keep)
      (first
        | (go_at_call 62; with_reducible refine (iadd_v (f1) (f0) (by omega) (by omega)).mono ?_; rintro e v1 ⟨s5, B5, k5, d5, rfl, t5, hb⟩; have hB1 := hb; have K1 := And.intro ((b0.below hB1).cell 0 _ rfl) (And.intro ((b0.below hB1).cell 1 _ rfl) (And.intro ((b1.below hB1).cell 0 _ rfl) (And.intro ((b1.below hB1).cell 1 _ rfl) (And.intro ((b2.below hB1).cell 0 _ rfl) (And.intro ((b2.below hB1).cell 1 _ rfl) (And.intro ((b3.below hB1).cell 0 _ rfl) ((b3.below hB1).cell 1 _ rfl))))))); clear hb)
        | (go_at_call 55; with_reducible refine (icmp_eq (f3.below hB1) t5.ri E1.out).mono ?_; rintro e v2 ⟨rfl, hb⟩; have hB2 := hB1.trans (hb.mono hB1.size); have t5 := t5.below hb; have K2 := And.intro ((b0.below hB2).cell 0 _ rfl) (And.intro ((b0.below hB2).cell 1 _ rfl) (And.intro ((b1.below hB2).cell 0 _ rfl) (And.intro ((b1.below hB2).cell 1 _ rfl) (And.intro ((b2.below hB2).cell 0 _ rfl) (And.intro ((b2.below hB2).cell 1 _ rfl) (And.intro ((b3.below hB2).cell 0 _ rfl) ((b3.below hB2).cell 1 _ rfl))))))); clear hb)
        | (go_at_call 64; with_reducible refine (isub_v (f3.below hB2) (f1.below hB2) (by omega) (by omega)).mono ?_; rintro e v3 ⟨s6, B6, k6, d6, rfl, t6, hb⟩; have hB3 := hB2.trans (hb.mono hB2.size); have K3 := And.intro ((b0.below hB3).cell 0 _ rfl) (And.intro ((b0.below hB3).cell 1 _ rfl) (And.intro ((b1.below hB3).cell 0 _ rfl) (And.intro ((b1.below hB3).cell 1 _ rfl) (And.intro ((b2.below hB3).cell 0 _ rfl) (And.intro ((b2.below hB3).cell 1 _ rfl) (And.intro ((b3.below hB3).cell 0 _ rfl) ((b3.below hB3).cell 1 _ rfl))))))); clear hb)
        | (go_at_call 55; with_reducible refine (icmp_eq t6.ri (f0.below hB3) E2.out).mono ?_; rintro e v4 ⟨rfl, hb⟩; have hB4 := hB3.trans (hb.mono hB3.size); have t6 := t6.below hb; have K4 := And.intro ((b0.below hB4).cell 0 _ rfl) (And.intro ((b0.below hB4).cell 1 _ rfl) (And.intro ((b1.below hB4).cell 0 _ rfl) (And.intro ((b1.below hB4).cell 1 _ rfl) (And.intro ((b2.below hB4).cell 0 _ rfl) (And.intro ((b2.below hB4).cell 1 _ rfl) (And.intro ((b3.below hB4).cell 0 _ rfl) ((b3.below hB4).cell 1 _ rfl))))))); clear hb)
        | (go_at_call 62; with_reducible refine (iadd_v (f1.below hB4) (f2.below hB4) (by omega) (by omega)).mono ?_; rintro e v5 ⟨s7, B7, k7, d7, rfl, t7, hb⟩; have hB5 := hB4.trans (hb.mono hB4.size); have K5 := And.intro ((b0.below hB5).cell 0 _ rfl) (And.intro ((b0.below hB5).cell 1 _ rfl) (And.intro ((b1.below hB5).cell 0 _ rfl) (And.intro ((b1.below hB5).cell 1 _ rfl) (And.intro ((b2.below hB5).cell 0 _ rfl) (And.intro ((b2.below hB5).cell 1 _ rfl) (And.intro ((b3.below hB5).cell 0 _ rfl) ((b3.below hB5).cell 1 _ rfl))))))); clear hb)
        | (go_at_call 65; with_reducible refine (imul_v (f0.below hB5) t7.ri (by omega) (by omega)).mono ?_; rintro e v6 ⟨s8, B8, k8, d8, rfl, t8, hb⟩; have hB6 := hB5.trans (hb.mono hB5.size); have t7 := t7.below hb; have K6 := And.intro ((b0.below hB6).cell 0 _ rfl) (And.intro ((b0.below hB6).cell 1 _ rfl) (And.intro ((b1.below hB6).cell 0 _ rfl) (And.intro ((b1.below hB6).cell 1 _ rfl) (And.intro ((b2.below hB6).cell 0 _ rfl) (And.intro ((b2.below hB6).cell 1 _ rfl) (And.intro ((b3.below hB6).cell 0 _ rfl) ((b3.below hB6).cell 1 _ rfl))))))); clear hb)
        | (go_at_call 65; with_reducible refine (imul_v (f0.below hB6) (f1.below hB6) (by omega) (by omega)).mono ?_; rintro e v7 ⟨s10, B10, k10, d10, rfl, t10, hb⟩; have hB7 := hB6.trans (hb.mono hB6.size); have t8 := t8.below hb; have K7 := And.intro ((b0.below hB7).cell 0 _ rfl) (And.intro ((b0.below hB7).cell 1 _ rfl) (And.intro ((b1.below hB7).cell 0 _ rfl) (And.intro ((b1.below hB7).cell 1 _ rfl) (And.intro ((b2.below hB7).cell 0 _ rfl) (And.intro ((b2.below hB7).cell 1 _ rfl) (And.intro ((b3.below hB7).cell 0 _ rfl) ((b3.below hB7).cell 1 _ rfl))))))); clear hb)
        | (go_at_call 65; with_reducible refine (imul_v (f0.below hB7) (f2.below hB7) (by omega) (by omega)).mono ?_; rintro e v8 ⟨s11, B11, k11, d11, rfl, t11, hb⟩; have hB8 := hB7.trans (hb.mono hB7.size); have t8 := t8.below hb; have t10 := t10.below hb; have K8 := And.intro ((b0.below hB8).cell 0 _ rfl) (And.intro ((b0.below hB8).cell 1 _ rfl) (And.intro ((b1.below hB8).cell 0 _ rfl) (And.intro ((b1.below hB8).cell 1 _ rfl) (And.intro ((b2.below hB8).cell 0 _ rfl) (And.intro ((b2.below hB8).cell 1 _ rfl) (And.intro ((b3.below hB8).cell 0 _ rfl) ((b3.below hB8).cell 1 _ rfl))))))); clear hb)
        | (go_at_call 62; with_reducible refine (iadd_v t10.ri t11.ri (by omega) (by omega)).mono ?_; rintro e v9 ⟨s12, B12, k12, d12, rfl, t12, hb⟩; have hB9 := hB8.trans (hb.mono hB8.size); have t8 := t8.below hb; have t10 := t10.below hb; have t11 := t11.below hb; have K9 := And.intro ((b0.below hB9).cell 0 _ rfl) (And.intro ((b0.below hB9).cell 1 _ rfl) (And.intro ((b1.below hB9).cell 0 _ rfl) (And.intro ((b1.below hB9).cell 1 _ rfl) (And.intro ((b2.below hB9).cell 0 _ rfl) (And.intro ((b2.below hB9).cell 1 _ rfl) (And.intro ((b3.below hB9).cell 0 _ rfl) ((b3.below hB9).cell 1 _ rfl))))))); clear hb)
        | (go_at_call 55; with_reducible refine (icmp_eq t8.ri t12.ri E3.out).mono ?_; rintro e v10 ⟨rfl, hb⟩; have hB10 := hB9.trans (hb.mono hB9.size); have t8 := t8.below hb; have t12 := t12.below hb; have K10 := And.intro ((b0.below hB10).cell 0 _ rfl) (And.intro ((b0.below hB10).cell 1 _ rfl) (And.intro ((b1.below hB10).cell 0 _ rfl) (And.intro ((b1.below hB10).cell 1 _ rfl) (And.intro ((b2.below hB10).cell 0 _ rfl) (And.intro ((b2.below hB10).cell 1 _ rfl) (And.intro ((b3.below hB10).cell 0 _ rfl) ((b3.below hB10).cell 1 _ rfl))))))); clear hb)
        | (go_at_call 55; with_reducible refine (icmp_is (f0.below hB10) (f1.below hB10) HQ.out).mono ?_; rintro e v11 ⟨rfl, hb⟩; have hB11 := hB10.trans (hb.mono hB10.size); have K11 := And.intro ((b0.below hB11).cell 0 _ rfl) (And.intro ((b0.below hB11).cell 1 _ rfl) (And.intro ((b1.below hB11).cell 0 _ rfl) (And.intro ((b1.below hB11).cell 1 _ rfl) (And.intro ((b2.below hB11).cell 0 _ rfl) (And.intro ((b2.below hB11).cell 1 _ rfl) (And.intro ((b3.below hB11).cell 0 _ rfl) ((b3.below hB11).cell 1 _ rfl))))))); clear hb)
        | (go_at_call 55; with_reducible refine (icmp_is (f1.below hB11) (f0.below hB11) HQ1.out).mono ?_; rintro e v12 ⟨rfl, hb⟩; have hB12 := hB11.trans (hb.mono hB11.size); have K12 := And.intro ((b0.below hB12).cell 0 _ rfl) (And.intro ((b0.below hB12).cell 1 _ rfl) (And.intro ((b1.below hB12).cell 0 _ rfl) (And.intro ((b1.below hB12).cell 1 _ rfl) (And.intro ((b2.below hB12).cell 0 _ rfl) (And.intro ((b2.below hB12).cell 1 _ rfl) (And.intro ((b3.below hB12).cell 0 _ rfl) ((b3.below hB12).cell 1 _ rfl))))))); clear hb)
      )
  have hbe := hB12
  replace b0 := b0.below hbe
  replace b1 := b1.below hbe
  replace b2 := b2.below hbe
  replace b3 := b3.below hbe
  replace f0 := f0.below hbe
  replace f1 := f1.below hbe
  replace f2 := f2.below hbe
  replace f3 := f3.below hbe
  replace H0 := H0.trans (hbe.mono H0.size)
  clear hbe hB1 K1 hB2 K2 hB3 K3 hB4 K4 hB5 K5 hB6 K6 hB7 K7 hB8 K8 hB9 K9 hB10 K10 hB11 K11 hB12 K12
  have e4 : (z0 + z2 - (z1 + z2)).sign = q := by rw [← HQ.out]; congr 1; omega
  have E4 := Lib.hid e4
  clear e4
  obtain ⟨m, hm⟩ : ∃ m, (z0 * z1).sign = m := ⟨_, rfl⟩
  obtain ⟨p, hp⟩ : ∃ p, z0.sign = p := ⟨_, rfl⟩
  obtain ⟨r, hr⟩ : ∃ r, z1.sign = r := ⟨_, rfl⟩
  have hpr : p * r = m := by rw [← hm, ← hp, ← hr, Int.sign_mul]
  have hmb := sign_le (z0 * z1)
  rw [hm] at hmb
  have hwm : IntKind.i64.wrap (p * r) = m := by rw [hpr]; simp [IntKind.wrap, IntKind.bits, IntKind.signed]; omega
  have HM := Lib.hid hm
  have HP := Lib.hid hp
  have HR := Lib.hid hr
  clear hm hp hr hpr hmb
  go_wp2_with fail
  have hD := drawn_below v12
  replace b0 : Box v12.drew _ _ _ := b0
  replace f0 : RI v12.drew _ _ _ _ := f0
  replace b1 : Box v12.drew _ _ _ := b1
  replace f1 : RI v12.drew _ _ _ _ := f1
  replace b2 : Box v12.drew _ _ _ := b2
  replace f2 : RI v12.drew _ _ _ _ := f2
  replace b3 : Box v12.drew _ _ _ := b3
  replace f3 : RI v12.drew _ _ _ _ := f3
  replace H0 : Below w.heap.size w v12.drew := H0.trans (hD.mono H0.size)
  clear hD
  go_region_held3 (fun V => V.cell? ⟨w4.heap.size, 0, none⟩ = some (.bool s0) ∧ V.cell? ⟨w4.heap.size, 1, none⟩ = some (.slice B0 k0 d0) ∧ V.cell? ⟨w4.heap.size + 1, 0, none⟩ = some (.bool s1) ∧ V.cell? ⟨w4.heap.size + 1, 1, none⟩ = some (.slice B1 k1 d1) ∧ V.cell? ⟨w4.heap.size + 1 + 1, 0, none⟩ = some (.bool s2) ∧ V.cell? ⟨w4.heap.size + 1 + 1, 1, none⟩ = some (.slice B2 k2 d2)) (first | exact ⟨(b0).cell 0 _ rfl, (b0).cell 1 _ rfl, (b1).cell 0 _ rfl, (b1).cell 1 _ rfl, (b2).cell 0 _ rfl, (b2).cell 1 _ rfl⟩ | exact K8 | exact K7 | exact K6 | exact K5 | exact K4 | exact K3 | exact K2 | exact K1 | go_keep)
      (first
        | (go_at_call 62; with_reducible refine (iadd_v (f0) (f2) (by omega) (by omega)).mono ?_; rintro e va1 ⟨s20, B20, k20, d20, rfl, t20, hb⟩; have hC1 := hb; have K1 := And.intro ((b0.below hC1).cell 0 _ rfl) (And.intro ((b0.below hC1).cell 1 _ rfl) (And.intro ((b1.below hC1).cell 0 _ rfl) (And.intro ((b1.below hC1).cell 1 _ rfl) (And.intro ((b2.below hC1).cell 0 _ rfl) ((b2.below hC1).cell 1 _ rfl))))); clear hb)
        | (go_at_call 62; with_reducible refine (iadd_v (f1.below hC1) (f2.below hC1) (by omega) (by omega)).mono ?_; rintro e va2 ⟨s21, B21, k21, d21, rfl, t21, hb⟩; have hC2 := hC1.trans (hb.mono hC1.size); have t20 := t20.below hb; have K2 := And.intro ((b0.below hC2).cell 0 _ rfl) (And.intro ((b0.below hC2).cell 1 _ rfl) (And.intro ((b1.below hC2).cell 0 _ rfl) (And.intro ((b1.below hC2).cell 1 _ rfl) (And.intro ((b2.below hC2).cell 0 _ rfl) ((b2.below hC2).cell 1 _ rfl))))); clear hb)
        | (go_at_call 55; with_reducible refine (icmp_is t20.ri t21.ri E4.out).mono ?_; rintro e va3 ⟨rfl, hb⟩; have hC3 := hC2.trans (hb.mono hC2.size); have t20 := t20.below hb; have t21 := t21.below hb; have K3 := And.intro ((b0.below hC3).cell 0 _ rfl) (And.intro ((b0.below hC3).cell 1 _ rfl) (And.intro ((b1.below hC3).cell 0 _ rfl) (And.intro ((b1.below hC3).cell 1 _ rfl) (And.intro ((b2.below hC3).cell 0 _ rfl) ((b2.below hC3).cell 1 _ rfl))))); clear hb)
        | (go_at_call 55; with_reducible refine (icmp_is (f0.below hC3) (f1.below hC3) HQ.out).mono ?_; rintro e va4 ⟨rfl, hb⟩; have hC4 := hC3.trans (hb.mono hC3.size); have K4 := And.intro ((b0.below hC4).cell 0 _ rfl) (And.intro ((b0.below hC4).cell 1 _ rfl) (And.intro ((b1.below hC4).cell 0 _ rfl) (And.intro ((b1.below hC4).cell 1 _ rfl) (And.intro ((b2.below hC4).cell 0 _ rfl) ((b2.below hC4).cell 1 _ rfl))))); clear hb)
        | (go_at_call 65; with_reducible refine (imul_v (f0.below hC4) (f1.below hC4) (by omega) (by omega)).mono ?_; rintro e va5 ⟨s22, B22, k22, d22, rfl, t22, hb⟩; have hC5 := hC4.trans (hb.mono hC4.size); have K5 := And.intro ((b0.below hC5).cell 0 _ rfl) (And.intro ((b0.below hC5).cell 1 _ rfl) (And.intro ((b1.below hC5).cell 0 _ rfl) (And.intro ((b1.below hC5).cell 1 _ rfl) (And.intro ((b2.below hC5).cell 0 _ rfl) ((b2.below hC5).cell 1 _ rfl))))); clear hb)
        | (go_at_call 53; with_reducible refine (isign_is t22.ri HM.out).mono ?_; rintro e va6 ⟨rfl, hb⟩; have hC6 := hC5.trans (hb.mono hC5.size); have t22 := t22.below hb; have K6 := And.intro ((b0.below hC6).cell 0 _ rfl) (And.intro ((b0.below hC6).cell 1 _ rfl) (And.intro ((b1.below hC6).cell 0 _ rfl) (And.intro ((b1.below hC6).cell 1 _ rfl) (And.intro ((b2.below hC6).cell 0 _ rfl) ((b2.below hC6).cell 1 _ rfl))))); clear hb)
        | (go_at_call 53; with_reducible refine (isign_is (f0.below hC6) HP.out).mono ?_; rintro e va7 ⟨rfl, hb⟩; have hC7 := hC6.trans (hb.mono hC6.size); have K7 := And.intro ((b0.below hC7).cell 0 _ rfl) (And.intro ((b0.below hC7).cell 1 _ rfl) (And.intro ((b1.below hC7).cell 0 _ rfl) (And.intro ((b1.below hC7).cell 1 _ rfl) (And.intro ((b2.below hC7).cell 0 _ rfl) ((b2.below hC7).cell 1 _ rfl))))); clear hb)
        | (go_at_call 53; with_reducible refine (isign_is (f1.below hC7) HR.out).mono ?_; rintro e va8 ⟨rfl, hb⟩; have hC8 := hC7.trans (hb.mono hC7.size); have K8 := And.intro ((b0.below hC8).cell 0 _ rfl) (And.intro ((b0.below hC8).cell 1 _ rfl) (And.intro ((b1.below hC8).cell 0 _ rfl) (And.intro ((b1.below hC8).cell 1 _ rfl) (And.intro ((b2.below hC8).cell 0 _ rfl) ((b2.below hC8).cell 1 _ rfl))))); clear hb)
      )
  have hbe := hC8
  replace b0 := b0.below hbe
  replace b1 := b1.below hbe
  replace b2 := b2.below hbe
  replace b3 := b3.below hbe
  replace f0 := f0.below hbe
  replace f1 := f1.below hbe
  replace f2 := f2.below hbe
  replace f3 := f3.below hbe
  replace H0 := H0.trans (hbe.mono H0.size)
  clear hbe hC1 K1 hC2 K2 hC3 K3 hC4 K4 hC5 K5 hC6 K6 hC7 K7 hC8 K8
  have e5 : - -z0 = z0 := Int.neg_neg _
  have e6 : (z0 + -z0).sign = 0 := by rw [Int.add_right_neg]; rfl
  have E5 := Lib.hid e5
  have E6 := Lib.hid e6
  clear e5 e6
  go_wp2_with fail
  have hD := drawn_below va8
  replace b0 : Box va8.drew _ _ _ := b0
  replace f0 : RI va8.drew _ _ _ _ := f0
  replace b1 : Box va8.drew _ _ _ := b1
  replace f1 : RI va8.drew _ _ _ _ := f1
  replace b2 : Box va8.drew _ _ _ := b2
  replace f2 : RI va8.drew _ _ _ _ := f2
  replace b3 : Box va8.drew _ _ _ := b3
  replace f3 : RI va8.drew _ _ _ _ := f3
  replace H0 : Below w.heap.size w va8.drew := H0.trans (hD.mono H0.size)
  clear hD
  go_region_held3 (fun V => V.cell? ⟨w4.heap.size, 0, none⟩ = some (.bool s0) ∧ V.cell? ⟨w4.heap.size, 1, none⟩ = some (.slice B0 k0 d0)) (first | exact ⟨(b0).cell 0 _ rfl, (b0).cell 1 _ rfl⟩ | exact K8 | exact K7 | exact K6 | exact K5 | exact K4 | exact K3 | exact K2 | exact K1 | go_keep)
      (first
        | (go_at_call 43; with_reducible refine (known2_any _).mono ?_; rintro e vb1 ⟨rfl, hb⟩; have hE1 := hb; have K1 := And.intro ((b0.below hE1).cell 0 _ rfl) ((b0.below hE1).cell 1 _ rfl); clear hb)
        | (go_at_call 58; with_reducible refine (ineg_v (f0.below hE1) (by omega)).mono ?_; rintro e vb2 ⟨s30, B30, k30, d30, rfl, t30, hb⟩; have hE2 := hE1.trans (hb.mono hE1.size); have K2 := And.intro ((b0.below hE2).cell 0 _ rfl) ((b0.below hE2).cell 1 _ rfl); clear hb)
        | (go_at_call 58; with_reducible refine (ineg_v t30.ri (by omega)).mono ?_; rintro e vb3 ⟨s31, B31, k31, d31, rfl, t31, hb⟩; have hE3 := hE2.trans (hb.mono hE2.size); have t30 := t30.below hb; have K3 := And.intro ((b0.below hE3).cell 0 _ rfl) ((b0.below hE3).cell 1 _ rfl); clear hb)
        | (go_at_call 50; with_reducible refine (inorm_v (f0.below hE3) (by omega)).mono ?_; rintro e vb4 ⟨s32, B32, k32, d32, rfl, t32, hb⟩; have hE4 := hE3.trans (hb.mono hE3.size); have t31 := t31.below hb; have K4 := And.intro ((b0.below hE4).cell 0 _ rfl) ((b0.below hE4).cell 1 _ rfl); clear hb)
        | (go_at_call 70; with_reducible refine (sameI_v t31 t32 E5.out).mono ?_; rintro e vb5 ⟨rfl, hb⟩; have hE5 := hE4.trans (hb.mono hE4.size); have t31 := t31.below hb; have t32 := t32.below hb; have K5 := And.intro ((b0.below hE5).cell 0 _ rfl) ((b0.below hE5).cell 1 _ rfl); clear hb)
        | (go_at_call 58; with_reducible refine (ineg_v (f0.below hE5) (by omega)).mono ?_; rintro e vb6 ⟨s33, B33, k33, d33, rfl, t33, hb⟩; have hE6 := hE5.trans (hb.mono hE5.size); have K6 := And.intro ((b0.below hE6).cell 0 _ rfl) ((b0.below hE6).cell 1 _ rfl); clear hb)
        | (go_at_call 62; with_reducible refine (iadd_v (f0.below hE6) t33.ri (by omega) (by omega)).mono ?_; rintro e vb7 ⟨s34, B34, k34, d34, rfl, t34, hb⟩; have hE7 := hE6.trans (hb.mono hE6.size); have t33 := t33.below hb; have K7 := And.intro ((b0.below hE7).cell 0 _ rfl) ((b0.below hE7).cell 1 _ rfl); clear hb)
        | (go_at_call 53; with_reducible refine (isign_is t34.ri E6.out).mono ?_; rintro e vb8 ⟨rfl, hb⟩; have hE8 := hE7.trans (hb.mono hE7.size); have t34 := t34.below hb; have K8 := And.intro ((b0.below hE8).cell 0 _ rfl) ((b0.below hE8).cell 1 _ rfl); clear hb)
      )
  have H9 := H0.trans (hE8.mono H0.size)
  go_wp2_with fail
  go_returns
  exact ⟨rfl, H9⟩
end Go.Proofs.YtacfdcfkfjildaaDoor
