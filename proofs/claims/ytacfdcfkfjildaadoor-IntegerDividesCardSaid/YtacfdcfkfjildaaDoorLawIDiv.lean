/-
  The walk of the law IntegerDivides, out of the contracts of what it calls.
-/
import Derived.Test.YtacfdcfkfjildaaDoorCmpI
namespace Go.Proofs.YtacfdcfkfjildaaDoor
open Go.RowKit

theorem ri_nat {w : World} {v : Value} {x L : Nat} (h : NV w v x L) : RI w false v (x : Int) L := ⟨x, h.rv, rfl⟩
set_option maxRecDepth 100000 in
set_option maxHeartbeats 8000000 in
theorem integerdivides_any {v : Value} {w : World} (HI : Ints w v) : Calls Tryd.prog 11 #[v] w fun e w' => e = .returned (.bool true) ∧ Below w.heap.size w w' := by
  go_enter Tryd.func11, Tryd.ntmps11
  go_wp2_with fail
  refine (new_any HI).mono ?_
  rintro e w1 ⟨rfl, hT, H0, hsz⟩
  have hlt : w.heap.size < w1.heap.size := by omega
  clear hsz
  go_wp2_with fail
  refine (made_v hT hlt).mono ?_
  rintro e w2 ⟨z0, s0, B0, k0, d0, rfl, f0, hT, hg⟩
  replace hlt := Nat.lt_of_lt_of_le hlt hg.size
  replace H0 := H0.grown hg H0.size (by rintro k hk; injection hk with hk; omega)
  clear hg
  go_wp2_with fail
  refine (made_v hT hlt).mono ?_
  rintro e w3 ⟨z1, s1, B1, k1, d1, rfl, f1, hT, hg⟩
  replace f0 := f0.other hg
  replace hlt := Nat.lt_of_lt_of_le hlt hg.size
  replace H0 := H0.grown hg H0.size (by rintro k hk; injection hk with hk; omega)
  clear hg
  replace f0 := f0.ri (by omega)
  replace f1 := f1.ri (by omega)
  clear hT hlt
  go_wp2_with fail
  obtain ⟨W, hW, b0, b1, hbW, hsz⟩ := boxes2 w3 #[.bool s0, .slice B0 k0 d0] #[.bool s1, .slice B1 k1 d1] 64 64
  rw [hW]
  clear hW
  replace f0 := f0.below hbW
  replace f1 := f1.below hbW
  replace H0 := H0.trans (hbW.mono H0.size)
  clear hbW
  rcases Decidable.em (z1 = 0) with hz | hz
  · subst hz
    refine (idivmod_zero f0 f1).mono ?_
    rintro e w4 ⟨rfl, hb⟩
    replace f0 := f0.below hb
    replace b0 := b0.below hb
    replace f1 := f1.below hb
    replace b1 := b1.below hb
    replace H0 := H0.trans (hb.mono H0.size)
    clear hb
    have a10 := b1.cell 0 _ rfl
    have a11 := b1.cell 1 _ rfl
    have hl4 := b1.lt
    have hl5 : w3.heap.size + 1 < w4.heap.size + 1 := by omega
    go_wp2_with fail
    obtain ⟨X, hX, b2, b3, hbX, hsX⟩ := boxes2 w4 #[.bool false, .slice none 0 0] #[.bool false, .slice none 0 0] 64 64
    first | rw [hX] | trace_state
    clear hX
    replace f0 := f0.below hbX
    replace b0 := b0.below hbX
    replace f1 := f1.below hbX
    replace b1 := b1.below hbX
    replace H0 := H0.trans (hbX.mono H0.size)
    refine (isign_is f1 (k := 0) rfl).mono ?_
    rintro e w5 ⟨rfl, hb⟩
    replace H0 := H0.trans (hb.mono H0.size)
    clear hb a10 a11
    go_wp2_with fail
    refine (known2_any _).mono ?_
    rintro e w6 ⟨rfl, hb⟩
    replace H0 := H0.trans (hb.mono H0.size)
    go_wp2_with fail
    go_returns
    exact ⟨rfl, H0⟩
  · refine (idivmod_v f0 f1 hz (by omega)).mono ?_
    rintro e w4 ⟨zq, zr, s2, B2, k2, d2, s3, B3, k3, d3, rfl, f2, f3, hqr, hb⟩
    replace f0 := f0.below hb
    replace b0 := b0.below hb
    replace f1 := f1.below hb
    replace b1 := b1.below hb
    replace H0 := H0.trans (hb.mono H0.size)
    clear hb
    obtain ⟨hq1, hq2, hq3⟩ := hqr
    obtain ⟨k, hk⟩ : ∃ k, z1.sign = k := ⟨_, rfl⟩
    have hk0 : (k == 0) = false := by rw [beq_eq_false_iff_ne, ← hk]; intro h; exact hz (Int.sign_eq_zero_iff_zero.1 h)
    obtain ⟨m, hm⟩ : ∃ m, zr.sign = m := ⟨_, rfl⟩
    have hm0 : (0 : Int) ≤ m := by rw [← hm]; rcases sign_cases zr with h | h | h <;> omega
    have hmd : decide (0 ≤ m) = true := decide_eq_true hm0
    have hc : (zr - (z1.natAbs : Int)).sign = -1 := Int.sign_eq_neg_one_of_neg (by omega)
    have he : zq * z1 + zr = z0 := hq1.symm
    have HK := Lib.hid hk
    have HM := Lib.hid hm
    have HC := Lib.hid hc
    have HE := Lib.hid he
    clear hq1 hq2 hq3 hk hm hc he hz
    have a10 := b1.cell 0 _ rfl
    have a11 := b1.cell 1 _ rfl
    have hl4 := b1.lt
    have hl5 : w3.heap.size + 1 < w4.heap.size + 1 := by omega
    go_wp2_with fail
    obtain ⟨X, hX, b2, b3, hbX, hsX⟩ := boxes2 w4 #[.bool s2, .slice B2 k2 d2] #[.bool s3, .slice B3 k3 d3] 64 64
    rw [hX]
    clear hX
    replace f0 := f0.below hbX
    replace b0 := b0.below hbX
    replace f1 := f1.below hbX
    replace b1 := b1.below hbX
    replace f2 := f2.ri.below hbX
    replace f3 := f3.ri.below hbX
    replace H0 := H0.trans (hbX.mono H0.size)
    clear hbX hsX a10 a11
    refine (isign_is f1 HK.out).mono ?_
    rintro e w5 ⟨rfl, hb⟩
    replace f0 := f0.below hb
    replace b0 := b0.below hb
    replace f1 := f1.below hb
    replace b1 := b1.below hb
    replace f2 := f2.below hb
    replace b2 := b2.below hb
    replace f3 := f3.below hb
    replace b3 := b3.below hb
    replace H0 := H0.trans (hb.mono H0.size)
    clear hb
    go_wp2_with fail
    have hD := drawn_below w5
    replace b0 : Box w5.drew _ _ _ := b0
    replace f0 : RI w5.drew _ _ _ _ := f0
    replace b1 : Box w5.drew _ _ _ := b1
    replace f1 : RI w5.drew _ _ _ _ := f1
    replace b2 : Box w5.drew _ _ _ := b2
    replace f2 : RI w5.drew _ _ _ _ := f2
    replace b3 : Box w5.drew _ _ _ := b3
    replace f3 : RI w5.drew _ _ _ _ := f3
    replace H0 : Below w.heap.size w w5.drew := H0.trans (hD.mono H0.size)
    clear hD
    go_region_held3 (fun V => V.cell? ⟨w3.heap.size, 0, none⟩ = some (.bool s0) ∧ V.cell? ⟨w3.heap.size, 1, none⟩ = some (.slice B0 k0 d0) ∧ V.cell? ⟨w3.heap.size + 1, 0, none⟩ = some (.bool s1) ∧ V.cell? ⟨w3.heap.size + 1, 1, none⟩ = some (.slice B1 k1 d1) ∧ V.cell? ⟨w4.heap.size, 0, none⟩ = some (.bool s2) ∧ V.cell? ⟨w4.heap.size, 1, none⟩ = some (.slice B2 k2 d2) ∧ V.cell? ⟨w4.heap.size + 1, 0, none⟩ = some (.bool s3) ∧ V.cell? ⟨w4.heap.size + 1, 1, none⟩ = some (.slice B3 k3 d3)) (first | exact ⟨(b0).cell 0 _ rfl, (b0).cell 1 _ rfl, (b1).cell 0 _ rfl, (b1).cell 1 _ rfl, (b2).cell 0 _ rfl, (b2).cell 1 _ rfl, (b3).cell 0 _ rfl, (b3).cell 1 _ rfl⟩ | exact K7 | exact K6 | exact K5 | exact K4 | exact K3 | exact K2 | exact K1 | go_keep)
      (first
        | (go_at_call 43; with_reducible refine (known2_any _).mono ?_; rintro e v1 ⟨rfl, hb⟩; have hB1 := hb; have K1 := And.intro ((b0.below hB1).cell 0 _ rfl) (And.intro ((b0.below hB1).cell 1 _ rfl) (And.intro ((b1.below hB1).cell 0 _ rfl) (And.intro ((b1.below hB1).cell 1 _ rfl) (And.intro ((b2.below hB1).cell 0 _ rfl) (And.intro ((b2.below hB1).cell 1 _ rfl) (And.intro ((b3.below hB1).cell 0 _ rfl) ((b3.below hB1).cell 1 _ rfl))))))); clear hb)
        | (go_at_call 53; with_reducible refine (isign_is (f3.below hB1) HM.out).mono ?_; rintro e v2 ⟨rfl, hb⟩; have hB2 := hB1.trans (hb.mono hB1.size); have K2 := And.intro ((b0.below hB2).cell 0 _ rfl) (And.intro ((b0.below hB2).cell 1 _ rfl) (And.intro ((b1.below hB2).cell 0 _ rfl) (And.intro ((b1.below hB2).cell 1 _ rfl) (And.intro ((b2.below hB2).cell 0 _ rfl) (And.intro ((b2.below hB2).cell 1 _ rfl) (And.intro ((b3.below hB2).cell 0 _ rfl) ((b3.below hB2).cell 1 _ rfl))))))); clear hb)
        | (go_at_call 60; with_reducible refine (iabs_v (f1.below hB2) (by omega)).mono ?_; rintro e v3 ⟨B5, k5, d5, rfl, t5, hb⟩; have hB3 := hB2.trans (hb.mono hB2.size); have K3 := And.intro ((b0.below hB3).cell 0 _ rfl) (And.intro ((b0.below hB3).cell 1 _ rfl) (And.intro ((b1.below hB3).cell 0 _ rfl) (And.intro ((b1.below hB3).cell 1 _ rfl) (And.intro ((b2.below hB3).cell 0 _ rfl) (And.intro ((b2.below hB3).cell 1 _ rfl) (And.intro ((b3.below hB3).cell 0 _ rfl) ((b3.below hB3).cell 1 _ rfl))))))); clear hb)
        | (go_at_call 55; with_reducible refine (icmp_is (f3.below hB3) (ri_nat t5) HC.out).mono ?_; rintro e v4 ⟨rfl, hb⟩; have hB4 := hB3.trans (hb.mono hB3.size); have t5 := t5.below hb; have K4 := And.intro ((b0.below hB4).cell 0 _ rfl) (And.intro ((b0.below hB4).cell 1 _ rfl) (And.intro ((b1.below hB4).cell 0 _ rfl) (And.intro ((b1.below hB4).cell 1 _ rfl) (And.intro ((b2.below hB4).cell 0 _ rfl) (And.intro ((b2.below hB4).cell 1 _ rfl) (And.intro ((b3.below hB4).cell 0 _ rfl) ((b3.below hB4).cell 1 _ rfl))))))); clear hb)
        | (go_at_call 65; with_reducible refine (imul_v (f2.below hB4) (f1.below hB4) (by omega) (by omega)).mono ?_; rintro e v5 ⟨s6, B6, k6, d6, rfl, t6, hb⟩; have hB5 := hB4.trans (hb.mono hB4.size); have K5 := And.intro ((b0.below hB5).cell 0 _ rfl) (And.intro ((b0.below hB5).cell 1 _ rfl) (And.intro ((b1.below hB5).cell 0 _ rfl) (And.intro ((b1.below hB5).cell 1 _ rfl) (And.intro ((b2.below hB5).cell 0 _ rfl) (And.intro ((b2.below hB5).cell 1 _ rfl) (And.intro ((b3.below hB5).cell 0 _ rfl) ((b3.below hB5).cell 1 _ rfl))))))); clear hb)
        | (go_at_call 62; with_reducible refine (iadd_v t6.ri (f3.below hB5) (by omega) (by omega)).mono ?_; rintro e v6 ⟨s7, B7, k7, d7, rfl, t7, hb⟩; have hB6 := hB5.trans (hb.mono hB5.size); have t6 := t6.below hb; have K6 := And.intro ((b0.below hB6).cell 0 _ rfl) (And.intro ((b0.below hB6).cell 1 _ rfl) (And.intro ((b1.below hB6).cell 0 _ rfl) (And.intro ((b1.below hB6).cell 1 _ rfl) (And.intro ((b2.below hB6).cell 0 _ rfl) (And.intro ((b2.below hB6).cell 1 _ rfl) (And.intro ((b3.below hB6).cell 0 _ rfl) ((b3.below hB6).cell 1 _ rfl))))))); clear hb)
        | (go_at_call 55; with_reducible refine (icmp_eq t7.ri (f0.below hB6) HE.out).mono ?_; rintro e v7 ⟨rfl, hb⟩; have hB7 := hB6.trans (hb.mono hB6.size); have t7 := t7.below hb; have K7 := And.intro ((b0.below hB7).cell 0 _ rfl) (And.intro ((b0.below hB7).cell 1 _ rfl) (And.intro ((b1.below hB7).cell 0 _ rfl) (And.intro ((b1.below hB7).cell 1 _ rfl) (And.intro ((b2.below hB7).cell 0 _ rfl) (And.intro ((b2.below hB7).cell 1 _ rfl) (And.intro ((b3.below hB7).cell 0 _ rfl) ((b3.below hB7).cell 1 _ rfl))))))); clear hb)
      )
    have H9 := H0.trans (hB7.mono H0.size)
    go_wp2_with fail
    go_returns
    exact ⟨rfl, H9⟩
end Go.Proofs.YtacfdcfkfjildaaDoor
