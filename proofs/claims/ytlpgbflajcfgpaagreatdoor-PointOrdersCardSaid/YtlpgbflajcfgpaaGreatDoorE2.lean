/-
  What only some of the statements need.
-/
import Derived.Test.YtlpgbflajcfgpaaGreatDoorB1
import Derived.Test.YtlpgbflajcfgpaaGreatDoorDivLong
import Derived.Test.YtlpgbflajcfgpaaGreatDoorE1
import Derived.Test.YtlpgbflajcfgpaaGreatDoorFormI
import Derived.Test.YtlpgbflajcfgpaaGreatDoorK1
import Derived.Test.YtlpgbflajcfgpaaGreatDoorK10
import Derived.Test.YtlpgbflajcfgpaaGreatDoorK2
import Derived.Test.YtlpgbflajcfgpaaGreatDoorK3
import Derived.Test.YtlpgbflajcfgpaaGreatDoorK4
import Derived.Test.YtlpgbflajcfgpaaGreatDoorK5
import Derived.Test.YtlpgbflajcfgpaaGreatDoorK6
import Derived.Test.YtlpgbflajcfgpaaGreatDoorK7
import Derived.Test.YtlpgbflajcfgpaaGreatDoorK8
import Derived.Test.YtlpgbflajcfgpaaGreatDoorK9
import Derived.Test.YtlpgbflajcfgpaaGreatDoorL8
import Derived.Test.YtlpgbflajcfgpaaGreatDoorN1
import Derived.Test.YtlpgbflajcfgpaaGreatDoorOrd
import Derived.Test.YtlpgbflajcfgpaaGreatDoorPtA
import Derived.Test.YtlpgbflajcfgpaaGreatDoorR1
import Derived.Test.YtlpgbflajcfgpaaGreatDoorRatA
import Derived.Test.YtlpgbflajcfgpaaGreatDoorRatC
import Derived.Test.YtlpgbflajcfgpaaGreatDoorRatD
import Derived.Test.YtlpgbflajcfgpaaGreatDoorRatR
import Derived.Test.YtlpgbflajcfgpaaGreatDoorRatS
import Derived.Test.YtlpgbflajcfgpaaGreatDoorS1
import Derived.Test.YtlpgbflajcfgpaaGreatDoorShelf
namespace Go.Proofs.YtlpgbflajcfgpaaGreatDoor
open Go.RowKit

section
variable {A0 A1 A2 A3 D0 D1 D2 D3 : Option Addr} {n0 n1 n2 n3 c0 c1 c2 c3 m0 m1 m2 m3 e0 e1 e2 e3 : Nat} {s0 s1 s2 s3 : Bool} {z z' z0 z1 z2 : Int} {q q' q0 q1 q2 : Rat} {L L0 L1 L2 x x0 x1 y : Nat} {k : Int} {w : World}
set_option maxRecDepth 100000 in
set_option maxHeartbeats 800000 in
theorem ntimes_v (h : PQ w s0 (.slice A0 n0 c0) (.slice D0 m0 e0) q L) (h' : PQ w s1 (.slice A1 n1 c1) (.slice D1 m1 e1) q' L0) (hL : L ≤ 100) (hL' : L0 ≤ 100) :
    Calls Tryz.prog 69 #[.agg #[.bool s0, .slice A0 n0 c0, .slice D0 m0 e0], .agg #[.bool s1, .slice A1 n1 c1, .slice D1 m1 e1]] w fun e w' => ∃ s3 A3 n3 c3 D3 m3 e3, e = .returned (.agg #[.bool s3, .slice A3 n3 c3, .slice D3 m3 e3]) ∧ PQ w' s3 (.slice A3 n3 c3) (.slice D3 m3 e3) (q*q') (max L 1 + max L0 1 + 1) ∧ Below w.heap.size w w' := by
  rcases Decidable.em (q.den = 1) with hq | hq
  · rcases Decidable.em (q'.den = 1) with hq' | hq'
    · have h1 := h.1
      have h1' := h'.1
      have hm := nv_zero (h.den0 hq)
      have hm' := nv_zero (h'.den0 hq')
      have HE : Hid (q * q' = ((q.num * q'.num : Int) : Rat)) := Lib.hid (by rw [rat_int hq, rat_int hq']; simp)
      clear h h'
      subst hm
      subst hm'
      clear hq hq'
      go_enter Tryz.func69, Tryz.ntmps69
      go_wp2_with fail
      obtain ⟨W0, hW, b0, b1, b2, hbW, hszW0⟩ := boxes3 w #[.bool s0, .slice A0 n0 c0, .slice D0 0 e0] #[.bool s1, .slice A1 n1 c1, .slice D1 0 e1] #[.bool false, .slice none 0 0, .slice none 0 0] 36 36 36
      rw [hW]
      clear hW
      replace h1 := h1.below hbW
      replace h1' := h1'.below hbW
      have H0 := hbW
      clear hbW
      have cb00 := b0.cell 0 _ rfl
      have cb01 := b0.cell 1 _ rfl
      have cb02 := b0.cell 2 _ rfl
      have cb10 := b1.cell 0 _ rfl
      have cb11 := b1.cell 1 _ rfl
      have cb12 := b1.cell 2 _ rfl
      go_wp2_with fail
      clear cb00 cb01 cb02 cb10 cb11 cb12
      refine (nmul_v h1 h1' (by omega) (by omega)).mono ?_
      rintro e w1 ⟨s3, A3, n3, c3, rfl, fi, hb⟩
      replace h1 := h1.below hb
      replace h1' := h1'.below hb
      replace b0 := b0.below hb
      replace b1 := b1.below hb
      replace b2 := b2.below hb
      replace H0 := H0.trans (hb.mono H0.size)
      clear hb
      have cb20 := b2.cell 0 _ rfl
      have yb20 := b2.frozen 0
      have cb21 := b2.cell 1 _ rfl
      have yb21 := b2.frozen 1
      have cb22 := b2.cell 2 _ rfl
      have yb22 := b2.frozen 2
      go_wp2_with fail
      clear cb20 yb20 cb21 yb21 cb22 yb22
      have hg := only_store3 w1 (w.heap.size + 1 + 1) (.bool s3) (.slice A3 n3 c3) (.slice none 0 0)
      have hB := b2.stored3 (.bool s3) (.slice A3 n3 c3) (.slice none 0 0)
      generalize hX : (((w1.setCell ⟨w.heap.size + 1 + 1, 0, none⟩ (.bool s3)).setCell ⟨w.heap.size + 1 + 1, 1, none⟩ (.slice A3 n3 c3)).setCell ⟨w.heap.size + 1 + 1, 2, none⟩ (.slice none 0 0)) = X2 at hg hB ⊢
      clear hX
      replace h1 := h1.kept b2 (by simp [notInt]) hg
      replace h1' := h1'.kept b2 (by simp [notInt]) hg
      replace fi := fi.kept b2 (by simp [notInt]) hg
      replace b0 := b0.other hg (by omega)
      replace b1 := b1.other hg (by omega)
      replace b2 := hB
      replace H0 := below_only H0 hg (by omega) H0.size
      clear hg hB
      refine bodyPost_ret (ret_numq rfl rfl b2) rfl ?_
      exact ⟨s3, A3, n3, c3, none, 0, 0, rfl, by rw [HE.out]; exact PQ.int (fi.more (by omega)), H0⟩
    · have h1 := h.1
      have h1' := h'.1
      have hm := nv_zero (h.den0 hq)
      have hm' := nv_pos (h'.den1 hq') (Nat.pos_of_ne_zero q'.den_nz)
      have hm1' : ((m1 : Int) == 0) = false := by rw [beq_eq_false_iff_ne]; omega
      have HE : Hid (q * q' = mkRat (q.num * q'.num) (q.den * q'.den)) := Lib.hid (Rat.mul_def' q q')
      have HN : Hid (q.den * q'.den ≠ 0) := Lib.hid (Nat.mul_ne_zero q.den_nz q'.den_nz)
      subst hm
      clear hq hq'
      go_enter Tryz.func69, Tryz.ntmps69
      go_wp2_with fail
      obtain ⟨W0, hW, b0, b1, b2, hbW, hszW0⟩ := boxes3 w #[.bool s0, .slice A0 n0 c0, .slice D0 0 e0] #[.bool s1, .slice A1 n1 c1, .slice D1 m1 e1] #[.bool false, .slice none 0 0, .slice none 0 0] 36 36 36
      rw [hW]
      clear hW
      replace h := h.below hbW
      replace h' := h'.below hbW
      replace h1 := h1.below hbW
      replace h1' := h1'.below hbW
      have H0 := hbW
      clear hbW
      have cb00 := b0.cell 0 _ rfl
      have cb01 := b0.cell 1 _ rfl
      have cb02 := b0.cell 2 _ rfl
      have cb10 := b1.cell 0 _ rfl
      have cb11 := b1.cell 1 _ rfl
      have cb12 := b1.cell 2 _ rfl
      go_wp2_with fail
      clear cb00 cb01 cb02 cb10 cb11 cb12
      have hD := drawn_below W0
      replace h := h.below hD
      replace h' := h'.below hD
      replace h1 := h1.below hD
      replace h1' := h1'.below hD
      replace b0 := b0.below hD
      replace b1 := b1.below hD
      replace b2 := b2.below hD
      replace H0 := H0.trans (hD.mono H0.size)
      clear hD
      have K0 := (And.intro (b0.cell 0 _ rfl) (And.intro (b0.cell 1 _ rfl) (And.intro (b0.cell 2 _ rfl) (And.intro (b1.cell 0 _ rfl) (And.intro (b1.cell 1 _ rfl) (b1.cell 2 _ rfl))))))
      go_region_held3 (fun V => V.cell? ⟨w.heap.size, 0, none⟩ = some (.bool s0) ∧ V.cell? ⟨w.heap.size, 1, none⟩ = some (.slice A0 n0 c0) ∧ V.cell? ⟨w.heap.size, 2, none⟩ = some (.slice D0 0 e0) ∧ V.cell? ⟨w.heap.size + 1, 0, none⟩ = some (.bool s1) ∧ V.cell? ⟨w.heap.size + 1, 1, none⟩ = some (.slice A1 n1 c1) ∧ V.cell? ⟨w.heap.size + 1, 2, none⟩ = some (.slice D1 m1 e1)) (first | exact KS | exact K5 | exact K4 | exact K3 | exact K2 | exact K1 | exact K0 | go_keep)
        (first
          | (go_at_call 92; have hK9 := K4; clear hK9; with_reducible refine (nfrac_v (L := max L 1 + max L0 1 + 1) (f10.more (by omega)) (NV.more f13 (by omega)) HN.out (by omega)).mono ?_; rintro e v5 ⟨s3, A3, n3, c3, D3, m3, e3, rfl, fq, hb⟩; have h := h.below hb; have h' := h'.below hb; have h1 := h1.below hb; have h1' := h1'.below hb; have f10 := f10.below hb; have f13 := f13.below hb; have b0 := b0.below hb; have b1 := b1.below hb; have b2 := b2.below hb; have H0 := H0.trans (hb.mono H0.size); clear f10; clear f13; have K5 := (And.intro (b0.cell 0 _ rfl) (And.intro (b0.cell 1 _ rfl) (And.intro (b0.cell 2 _ rfl) (And.intro (b1.cell 0 _ rfl) (And.intro (b1.cell 1 _ rfl) (b1.cell 2 _ rfl)))))); have r0 := b2.cell 0 _ rfl; have f_0 := b2.frozen 0; have r1 := b2.cell 1 _ rfl; have f_1 := b2.frozen 1; have r2 := b2.cell 2 _ rfl; have f_2 := b2.frozen 2; have hg := only_store3 v5 (w.heap.size + 1 + 1) (.bool s3) (.slice A3 n3 c3) (.slice D3 m3 e3); have KS := (And.intro ((b0.other hg (by omega)).cell 0 _ rfl) (And.intro ((b0.other hg (by omega)).cell 1 _ rfl) (And.intro ((b0.other hg (by omega)).cell 2 _ rfl) (And.intro ((b1.other hg (by omega)).cell 0 _ rfl) (And.intro ((b1.other hg (by omega)).cell 1 _ rfl) ((b1.other hg (by omega)).cell 2 _ rfl)))))); clear hb)
          | (go_at_call 65; have hK9 := K3; clear hK9; with_reducible refine (nprod_v f11 f12 (by omega) (by omega)).mono ?_; rintro e v4 ⟨A13, n13, c13, rfl, f13, hb⟩; have h := h.below hb; have h' := h'.below hb; have h1 := h1.below hb; have h1' := h1'.below hb; have f10 := f10.below hb; have f11 := f11.below hb; have f12 := f12.below hb; have b0 := b0.below hb; have b1 := b1.below hb; have b2 := b2.below hb; have H0 := H0.trans (hb.mono H0.size); clear f11; clear f12; have K4 := (And.intro (b0.cell 0 _ rfl) (And.intro (b0.cell 1 _ rfl) (And.intro (b0.cell 2 _ rfl) (And.intro (b1.cell 0 _ rfl) (And.intro (b1.cell 1 _ rfl) (b1.cell 2 _ rfl)))))); clear hb)
          | (go_at_call 77; have hK9 := K2; clear hK9; with_reducible refine (nden_v h').mono ?_; rintro e v3 ⟨A12, n12, c12, rfl, f12, hb⟩; have h := h.below hb; have h' := h'.below hb; have h1 := h1.below hb; have h1' := h1'.below hb; have f10 := f10.below hb; have f11 := f11.below hb; have b0 := b0.below hb; have b1 := b1.below hb; have b2 := b2.below hb; have H0 := H0.trans (hb.mono H0.size); have K3 := (And.intro (b0.cell 0 _ rfl) (And.intro (b0.cell 1 _ rfl) (And.intro (b0.cell 2 _ rfl) (And.intro (b1.cell 0 _ rfl) (And.intro (b1.cell 1 _ rfl) (b1.cell 2 _ rfl)))))); clear hb)
          | (go_at_call 77; have hK9 := K1; clear hK9; with_reducible refine (nden_v h).mono ?_; rintro e v2 ⟨A11, n11, c11, rfl, f11, hb⟩; have h := h.below hb; have h' := h'.below hb; have h1 := h1.below hb; have h1' := h1'.below hb; have f10 := f10.below hb; have b0 := b0.below hb; have b1 := b1.below hb; have b2 := b2.below hb; have H0 := H0.trans (hb.mono H0.size); have K2 := (And.intro (b0.cell 0 _ rfl) (And.intro (b0.cell 1 _ rfl) (And.intro (b0.cell 2 _ rfl) (And.intro (b1.cell 0 _ rfl) (And.intro (b1.cell 1 _ rfl) (b1.cell 2 _ rfl)))))); clear hb)
          | (go_at_call 87; have hK9 := K0; clear hK9; with_reducible refine (nmul_v h1 h1' (by omega) (by omega)).mono ?_; rintro e v1 ⟨s10, A10, n10, c10, rfl, f10, hb⟩; have h := h.below hb; have h' := h'.below hb; have h1 := h1.below hb; have h1' := h1'.below hb; have b0 := b0.below hb; have b1 := b1.below hb; have b2 := b2.below hb; have H0 := H0.trans (hb.mono H0.size); have K1 := (And.intro (b0.cell 0 _ rfl) (And.intro (b0.cell 1 _ rfl) (And.intro (b0.cell 2 _ rfl) (And.intro (b1.cell 0 _ rfl) (And.intro (b1.cell 1 _ rfl) (b1.cell 2 _ rfl)))))); clear hb)
        )
      have hB := b2.stored3 (.bool s3) (.slice A3 n3 c3) (.slice D3 m3 e3)
      go_wp2_with fail
      generalize hX : (((v5.setCell ⟨w.heap.size + 1 + 1, 0, none⟩ (.bool s3)).setCell ⟨w.heap.size + 1 + 1, 1, none⟩ (.slice A3 n3 c3)).setCell ⟨w.heap.size + 1 + 1, 2, none⟩ (.slice D3 m3 e3)) = X6 at hg hB ⊢
      clear hX r0 f_0 r1 f_1 r2 f_2
      replace h := h.kept b2 (by simp [notInt]) hg
      replace h' := h'.kept b2 (by simp [notInt]) hg
      replace h1 := h1.kept b2 (by simp [notInt]) hg
      replace h1' := h1'.kept b2 (by simp [notInt]) hg
      replace fq := fq.kept b2 (by simp [notInt]) hg
      replace b0 := b0.other hg (by omega)
      replace b1 := b1.other hg (by omega)
      replace b2 := hB
      replace H0 := below_only H0 hg (by omega) H0.size
      clear hg hB
      refine bodyPost_ret (ret_numq rfl rfl b2) rfl ?_
      exact ⟨s3, A3, n3, c3, D3, m3, e3, rfl, by rw [HE.out]; exact fq, H0⟩
  · rcases Decidable.em (q'.den = 1) with hq' | hq'
    · have h1 := h.1
      have h1' := h'.1
      have hm := nv_pos (h.den1 hq) (Nat.pos_of_ne_zero q.den_nz)
      have hm1 : ((m0 : Int) == 0) = false := by rw [beq_eq_false_iff_ne]; omega
      have hm' := nv_zero (h'.den0 hq')
      have HE : Hid (q * q' = mkRat (q.num * q'.num) (q.den * q'.den)) := Lib.hid (Rat.mul_def' q q')
      have HN : Hid (q.den * q'.den ≠ 0) := Lib.hid (Nat.mul_ne_zero q.den_nz q'.den_nz)
      subst hm'
      clear hq hq'
      go_enter Tryz.func69, Tryz.ntmps69
      go_wp2_with fail
      obtain ⟨W0, hW, b0, b1, b2, hbW, hszW0⟩ := boxes3 w #[.bool s0, .slice A0 n0 c0, .slice D0 m0 e0] #[.bool s1, .slice A1 n1 c1, .slice D1 0 e1] #[.bool false, .slice none 0 0, .slice none 0 0] 36 36 36
      rw [hW]
      clear hW
      replace h := h.below hbW
      replace h' := h'.below hbW
      replace h1 := h1.below hbW
      replace h1' := h1'.below hbW
      have H0 := hbW
      clear hbW
      have cb00 := b0.cell 0 _ rfl
      have cb01 := b0.cell 1 _ rfl
      have cb02 := b0.cell 2 _ rfl
      have cb10 := b1.cell 0 _ rfl
      have cb11 := b1.cell 1 _ rfl
      have cb12 := b1.cell 2 _ rfl
      go_wp2_with fail
      clear cb00 cb01 cb02 cb10 cb11 cb12
      have hD := drawn_below W0
      replace h := h.below hD
      replace h' := h'.below hD
      replace h1 := h1.below hD
      replace h1' := h1'.below hD
      replace b0 := b0.below hD
      replace b1 := b1.below hD
      replace b2 := b2.below hD
      replace H0 := H0.trans (hD.mono H0.size)
      clear hD
      have K0 := (And.intro (b0.cell 0 _ rfl) (And.intro (b0.cell 1 _ rfl) (And.intro (b0.cell 2 _ rfl) (And.intro (b1.cell 0 _ rfl) (And.intro (b1.cell 1 _ rfl) (b1.cell 2 _ rfl))))))
      go_region_held3 (fun V => V.cell? ⟨w.heap.size, 0, none⟩ = some (.bool s0) ∧ V.cell? ⟨w.heap.size, 1, none⟩ = some (.slice A0 n0 c0) ∧ V.cell? ⟨w.heap.size, 2, none⟩ = some (.slice D0 m0 e0) ∧ V.cell? ⟨w.heap.size + 1, 0, none⟩ = some (.bool s1) ∧ V.cell? ⟨w.heap.size + 1, 1, none⟩ = some (.slice A1 n1 c1) ∧ V.cell? ⟨w.heap.size + 1, 2, none⟩ = some (.slice D1 0 e1)) (first | exact KS | exact K5 | exact K4 | exact K3 | exact K2 | exact K1 | exact K0 | go_keep)
        (first
          | (go_at_call 92; have hK9 := K4; clear hK9; with_reducible refine (nfrac_v (L := max L 1 + max L0 1 + 1) (f10.more (by omega)) (NV.more f13 (by omega)) HN.out (by omega)).mono ?_; rintro e v5 ⟨s3, A3, n3, c3, D3, m3, e3, rfl, fq, hb⟩; have h := h.below hb; have h' := h'.below hb; have h1 := h1.below hb; have h1' := h1'.below hb; have f10 := f10.below hb; have f13 := f13.below hb; have b0 := b0.below hb; have b1 := b1.below hb; have b2 := b2.below hb; have H0 := H0.trans (hb.mono H0.size); clear f10; clear f13; have K5 := (And.intro (b0.cell 0 _ rfl) (And.intro (b0.cell 1 _ rfl) (And.intro (b0.cell 2 _ rfl) (And.intro (b1.cell 0 _ rfl) (And.intro (b1.cell 1 _ rfl) (b1.cell 2 _ rfl)))))); have r0 := b2.cell 0 _ rfl; have f_0 := b2.frozen 0; have r1 := b2.cell 1 _ rfl; have f_1 := b2.frozen 1; have r2 := b2.cell 2 _ rfl; have f_2 := b2.frozen 2; have hg := only_store3 v5 (w.heap.size + 1 + 1) (.bool s3) (.slice A3 n3 c3) (.slice D3 m3 e3); have KS := (And.intro ((b0.other hg (by omega)).cell 0 _ rfl) (And.intro ((b0.other hg (by omega)).cell 1 _ rfl) (And.intro ((b0.other hg (by omega)).cell 2 _ rfl) (And.intro ((b1.other hg (by omega)).cell 0 _ rfl) (And.intro ((b1.other hg (by omega)).cell 1 _ rfl) ((b1.other hg (by omega)).cell 2 _ rfl)))))); clear hb)
          | (go_at_call 65; have hK9 := K3; clear hK9; with_reducible refine (nprod_v f11 f12 (by omega) (by omega)).mono ?_; rintro e v4 ⟨A13, n13, c13, rfl, f13, hb⟩; have h := h.below hb; have h' := h'.below hb; have h1 := h1.below hb; have h1' := h1'.below hb; have f10 := f10.below hb; have f11 := f11.below hb; have f12 := f12.below hb; have b0 := b0.below hb; have b1 := b1.below hb; have b2 := b2.below hb; have H0 := H0.trans (hb.mono H0.size); clear f11; clear f12; have K4 := (And.intro (b0.cell 0 _ rfl) (And.intro (b0.cell 1 _ rfl) (And.intro (b0.cell 2 _ rfl) (And.intro (b1.cell 0 _ rfl) (And.intro (b1.cell 1 _ rfl) (b1.cell 2 _ rfl)))))); clear hb)
          | (go_at_call 77; have hK9 := K2; clear hK9; with_reducible refine (nden_v h').mono ?_; rintro e v3 ⟨A12, n12, c12, rfl, f12, hb⟩; have h := h.below hb; have h' := h'.below hb; have h1 := h1.below hb; have h1' := h1'.below hb; have f10 := f10.below hb; have f11 := f11.below hb; have b0 := b0.below hb; have b1 := b1.below hb; have b2 := b2.below hb; have H0 := H0.trans (hb.mono H0.size); have K3 := (And.intro (b0.cell 0 _ rfl) (And.intro (b0.cell 1 _ rfl) (And.intro (b0.cell 2 _ rfl) (And.intro (b1.cell 0 _ rfl) (And.intro (b1.cell 1 _ rfl) (b1.cell 2 _ rfl)))))); clear hb)
          | (go_at_call 77; have hK9 := K1; clear hK9; with_reducible refine (nden_v h).mono ?_; rintro e v2 ⟨A11, n11, c11, rfl, f11, hb⟩; have h := h.below hb; have h' := h'.below hb; have h1 := h1.below hb; have h1' := h1'.below hb; have f10 := f10.below hb; have b0 := b0.below hb; have b1 := b1.below hb; have b2 := b2.below hb; have H0 := H0.trans (hb.mono H0.size); have K2 := (And.intro (b0.cell 0 _ rfl) (And.intro (b0.cell 1 _ rfl) (And.intro (b0.cell 2 _ rfl) (And.intro (b1.cell 0 _ rfl) (And.intro (b1.cell 1 _ rfl) (b1.cell 2 _ rfl)))))); clear hb)
          | (go_at_call 87; have hK9 := K0; clear hK9; with_reducible refine (nmul_v h1 h1' (by omega) (by omega)).mono ?_; rintro e v1 ⟨s10, A10, n10, c10, rfl, f10, hb⟩; have h := h.below hb; have h' := h'.below hb; have h1 := h1.below hb; have h1' := h1'.below hb; have b0 := b0.below hb; have b1 := b1.below hb; have b2 := b2.below hb; have H0 := H0.trans (hb.mono H0.size); have K1 := (And.intro (b0.cell 0 _ rfl) (And.intro (b0.cell 1 _ rfl) (And.intro (b0.cell 2 _ rfl) (And.intro (b1.cell 0 _ rfl) (And.intro (b1.cell 1 _ rfl) (b1.cell 2 _ rfl)))))); clear hb)
        )
      have hB := b2.stored3 (.bool s3) (.slice A3 n3 c3) (.slice D3 m3 e3)
      go_wp2_with fail
      generalize hX : (((v5.setCell ⟨w.heap.size + 1 + 1, 0, none⟩ (.bool s3)).setCell ⟨w.heap.size + 1 + 1, 1, none⟩ (.slice A3 n3 c3)).setCell ⟨w.heap.size + 1 + 1, 2, none⟩ (.slice D3 m3 e3)) = X6 at hg hB ⊢
      clear hX r0 f_0 r1 f_1 r2 f_2
      replace h := h.kept b2 (by simp [notInt]) hg
      replace h' := h'.kept b2 (by simp [notInt]) hg
      replace h1 := h1.kept b2 (by simp [notInt]) hg
      replace h1' := h1'.kept b2 (by simp [notInt]) hg
      replace fq := fq.kept b2 (by simp [notInt]) hg
      replace b0 := b0.other hg (by omega)
      replace b1 := b1.other hg (by omega)
      replace b2 := hB
      replace H0 := below_only H0 hg (by omega) H0.size
      clear hg hB
      refine bodyPost_ret (ret_numq rfl rfl b2) rfl ?_
      exact ⟨s3, A3, n3, c3, D3, m3, e3, rfl, by rw [HE.out]; exact fq, H0⟩
    · have h1 := h.1
      have h1' := h'.1
      have hm := nv_pos (h.den1 hq) (Nat.pos_of_ne_zero q.den_nz)
      have hm1 : ((m0 : Int) == 0) = false := by rw [beq_eq_false_iff_ne]; omega
      have hm' := nv_pos (h'.den1 hq') (Nat.pos_of_ne_zero q'.den_nz)
      have hm1' : ((m1 : Int) == 0) = false := by rw [beq_eq_false_iff_ne]; omega
      have HE : Hid (q * q' = mkRat (q.num * q'.num) (q.den * q'.den)) := Lib.hid (Rat.mul_def' q q')
      have HN : Hid (q.den * q'.den ≠ 0) := Lib.hid (Nat.mul_ne_zero q.den_nz q'.den_nz)
      clear hq hq'
      go_enter Tryz.func69, Tryz.ntmps69
      go_wp2_with fail
      obtain ⟨W0, hW, b0, b1, b2, hbW, hszW0⟩ := boxes3 w #[.bool s0, .slice A0 n0 c0, .slice D0 m0 e0] #[.bool s1, .slice A1 n1 c1, .slice D1 m1 e1] #[.bool false, .slice none 0 0, .slice none 0 0] 36 36 36
      rw [hW]
      clear hW
      replace h := h.below hbW
      replace h' := h'.below hbW
      replace h1 := h1.below hbW
      replace h1' := h1'.below hbW
      have H0 := hbW
      clear hbW
      have cb00 := b0.cell 0 _ rfl
      have cb01 := b0.cell 1 _ rfl
      have cb02 := b0.cell 2 _ rfl
      have cb10 := b1.cell 0 _ rfl
      have cb11 := b1.cell 1 _ rfl
      have cb12 := b1.cell 2 _ rfl
      go_wp2_with fail
      clear cb00 cb01 cb02 cb10 cb11 cb12
      have hD := drawn_below W0
      replace h := h.below hD
      replace h' := h'.below hD
      replace h1 := h1.below hD
      replace h1' := h1'.below hD
      replace b0 := b0.below hD
      replace b1 := b1.below hD
      replace b2 := b2.below hD
      replace H0 := H0.trans (hD.mono H0.size)
      clear hD
      have K0 := (And.intro (b0.cell 0 _ rfl) (And.intro (b0.cell 1 _ rfl) (And.intro (b0.cell 2 _ rfl) (And.intro (b1.cell 0 _ rfl) (And.intro (b1.cell 1 _ rfl) (b1.cell 2 _ rfl))))))
      go_region_held3 (fun V => V.cell? ⟨w.heap.size, 0, none⟩ = some (.bool s0) ∧ V.cell? ⟨w.heap.size, 1, none⟩ = some (.slice A0 n0 c0) ∧ V.cell? ⟨w.heap.size, 2, none⟩ = some (.slice D0 m0 e0) ∧ V.cell? ⟨w.heap.size + 1, 0, none⟩ = some (.bool s1) ∧ V.cell? ⟨w.heap.size + 1, 1, none⟩ = some (.slice A1 n1 c1) ∧ V.cell? ⟨w.heap.size + 1, 2, none⟩ = some (.slice D1 m1 e1)) (first | exact KS | exact K5 | exact K4 | exact K3 | exact K2 | exact K1 | exact K0 | go_keep)
        (first
          | (go_at_call 92; have hK9 := K4; clear hK9; with_reducible refine (nfrac_v (L := max L 1 + max L0 1 + 1) (f10.more (by omega)) (NV.more f13 (by omega)) HN.out (by omega)).mono ?_; rintro e v5 ⟨s3, A3, n3, c3, D3, m3, e3, rfl, fq, hb⟩; have h := h.below hb; have h' := h'.below hb; have h1 := h1.below hb; have h1' := h1'.below hb; have f10 := f10.below hb; have f13 := f13.below hb; have b0 := b0.below hb; have b1 := b1.below hb; have b2 := b2.below hb; have H0 := H0.trans (hb.mono H0.size); clear f10; clear f13; have K5 := (And.intro (b0.cell 0 _ rfl) (And.intro (b0.cell 1 _ rfl) (And.intro (b0.cell 2 _ rfl) (And.intro (b1.cell 0 _ rfl) (And.intro (b1.cell 1 _ rfl) (b1.cell 2 _ rfl)))))); have r0 := b2.cell 0 _ rfl; have f_0 := b2.frozen 0; have r1 := b2.cell 1 _ rfl; have f_1 := b2.frozen 1; have r2 := b2.cell 2 _ rfl; have f_2 := b2.frozen 2; have hg := only_store3 v5 (w.heap.size + 1 + 1) (.bool s3) (.slice A3 n3 c3) (.slice D3 m3 e3); have KS := (And.intro ((b0.other hg (by omega)).cell 0 _ rfl) (And.intro ((b0.other hg (by omega)).cell 1 _ rfl) (And.intro ((b0.other hg (by omega)).cell 2 _ rfl) (And.intro ((b1.other hg (by omega)).cell 0 _ rfl) (And.intro ((b1.other hg (by omega)).cell 1 _ rfl) ((b1.other hg (by omega)).cell 2 _ rfl)))))); clear hb)
          | (go_at_call 65; have hK9 := K3; clear hK9; with_reducible refine (nprod_v f11 f12 (by omega) (by omega)).mono ?_; rintro e v4 ⟨A13, n13, c13, rfl, f13, hb⟩; have h := h.below hb; have h' := h'.below hb; have h1 := h1.below hb; have h1' := h1'.below hb; have f10 := f10.below hb; have f11 := f11.below hb; have f12 := f12.below hb; have b0 := b0.below hb; have b1 := b1.below hb; have b2 := b2.below hb; have H0 := H0.trans (hb.mono H0.size); clear f11; clear f12; have K4 := (And.intro (b0.cell 0 _ rfl) (And.intro (b0.cell 1 _ rfl) (And.intro (b0.cell 2 _ rfl) (And.intro (b1.cell 0 _ rfl) (And.intro (b1.cell 1 _ rfl) (b1.cell 2 _ rfl)))))); clear hb)
          | (go_at_call 77; have hK9 := K2; clear hK9; with_reducible refine (nden_v h').mono ?_; rintro e v3 ⟨A12, n12, c12, rfl, f12, hb⟩; have h := h.below hb; have h' := h'.below hb; have h1 := h1.below hb; have h1' := h1'.below hb; have f10 := f10.below hb; have f11 := f11.below hb; have b0 := b0.below hb; have b1 := b1.below hb; have b2 := b2.below hb; have H0 := H0.trans (hb.mono H0.size); have K3 := (And.intro (b0.cell 0 _ rfl) (And.intro (b0.cell 1 _ rfl) (And.intro (b0.cell 2 _ rfl) (And.intro (b1.cell 0 _ rfl) (And.intro (b1.cell 1 _ rfl) (b1.cell 2 _ rfl)))))); clear hb)
          | (go_at_call 77; have hK9 := K1; clear hK9; with_reducible refine (nden_v h).mono ?_; rintro e v2 ⟨A11, n11, c11, rfl, f11, hb⟩; have h := h.below hb; have h' := h'.below hb; have h1 := h1.below hb; have h1' := h1'.below hb; have f10 := f10.below hb; have b0 := b0.below hb; have b1 := b1.below hb; have b2 := b2.below hb; have H0 := H0.trans (hb.mono H0.size); have K2 := (And.intro (b0.cell 0 _ rfl) (And.intro (b0.cell 1 _ rfl) (And.intro (b0.cell 2 _ rfl) (And.intro (b1.cell 0 _ rfl) (And.intro (b1.cell 1 _ rfl) (b1.cell 2 _ rfl)))))); clear hb)
          | (go_at_call 87; have hK9 := K0; clear hK9; with_reducible refine (nmul_v h1 h1' (by omega) (by omega)).mono ?_; rintro e v1 ⟨s10, A10, n10, c10, rfl, f10, hb⟩; have h := h.below hb; have h' := h'.below hb; have h1 := h1.below hb; have h1' := h1'.below hb; have b0 := b0.below hb; have b1 := b1.below hb; have b2 := b2.below hb; have H0 := H0.trans (hb.mono H0.size); have K1 := (And.intro (b0.cell 0 _ rfl) (And.intro (b0.cell 1 _ rfl) (And.intro (b0.cell 2 _ rfl) (And.intro (b1.cell 0 _ rfl) (And.intro (b1.cell 1 _ rfl) (b1.cell 2 _ rfl)))))); clear hb)
        )
      have hB := b2.stored3 (.bool s3) (.slice A3 n3 c3) (.slice D3 m3 e3)
      go_wp2_with fail
      generalize hX : (((v5.setCell ⟨w.heap.size + 1 + 1, 0, none⟩ (.bool s3)).setCell ⟨w.heap.size + 1 + 1, 1, none⟩ (.slice A3 n3 c3)).setCell ⟨w.heap.size + 1 + 1, 2, none⟩ (.slice D3 m3 e3)) = X6 at hg hB ⊢
      clear hX r0 f_0 r1 f_1 r2 f_2
      replace h := h.kept b2 (by simp [notInt]) hg
      replace h' := h'.kept b2 (by simp [notInt]) hg
      replace h1 := h1.kept b2 (by simp [notInt]) hg
      replace h1' := h1'.kept b2 (by simp [notInt]) hg
      replace fq := fq.kept b2 (by simp [notInt]) hg
      replace b0 := b0.other hg (by omega)
      replace b1 := b1.other hg (by omega)
      replace b2 := hB
      replace H0 := below_only H0 hg (by omega) H0.size
      clear hg hB
      refine bodyPost_ret (ret_numq rfl rfl b2) rfl ?_
      exact ⟨s3, A3, n3, c3, D3, m3, e3, rfl, by rw [HE.out]; exact fq, H0⟩
end
end Go.Proofs.YtlpgbflajcfgpaaGreatDoor
namespace Go.Proofs.YtlpgbflajcfgpaaGreatDoor
open Go.RowKit

section
variable {A0 A1 A2 A3 D0 D1 D2 D3 : Option Addr} {n0 n1 n2 n3 c0 c1 c2 c3 m0 m1 m2 m3 e0 e1 e2 e3 : Nat} {s0 s1 s2 s3 : Bool} {z z' z0 z1 z2 : Int} {q q' q0 q1 q2 : Rat} {L L0 L1 L2 x x0 x1 y : Nat} {k : Int} {w : World}
theorem digs_iff {x y : Nat} : digs x = digs y ↔ x = y := ⟨digs_inj, fun h => by rw [h]⟩
theorem samen_r {ds es : List Nat} (h : Raw w (.slice A0 n0 c0) ds) (h' : Raw w (.slice A1 n1 c1) es) :
    Calls Tryz.prog 74 #[.slice A0 n0 c0, .slice A1 n1 c1] w fun e w' => e = .returned (.bool (decide (ds = es))) ∧ Below w.heap.size w w' := by
  refine (same_any h h').mono ?_
  rintro e w' ⟨rfl, j, rfl⟩
  exact ⟨rfl, below_drewN (Below.refl _ w) j⟩
set_option maxRecDepth 100000 in
set_option maxHeartbeats 800000 in
theorem samei_r {ds es : List Nat} (h : Raw w (.slice A0 n0 c0) ds) (h' : Raw w (.slice A1 n1 c1) es) :
    Calls Tryz.prog 73 #[.agg #[.bool s0, .slice A0 n0 c0], .agg #[.bool s1, .slice A1 n1 c1]] w fun e w' => e = .returned (.bool (decide (s0 = s1) && decide (ds = es))) ∧ Below w.heap.size w w' := by
  cases s0 <;> cases s1
  · skip
    go_enter Tryz.func73, Tryz.ntmps73
    go_wp2_with fail
    obtain ⟨W0, hW, b0, b1, hbW, hszW0⟩ := boxes2 w #[.bool false, .slice A0 n0 c0] #[.bool false, .slice A1 n1 c1] 25 25
    rw [hW]
    clear hW
    replace h := h.below hbW
    replace h' := h'.below hbW
    have H0 := hbW
    clear hbW
    have cb00 := b0.cell 0 _ rfl
    have cb01 := b0.cell 1 _ rfl
    have cb10 := b1.cell 0 _ rfl
    have cb11 := b1.cell 1 _ rfl
    go_wp2_with fail
    clear cb00 cb01 cb10 cb11
    refine (samen_r h h').mono ?_
    rintro e w1 ⟨rfl, hb⟩
    replace h := h.below hb
    replace h' := h'.below hb
    replace b0 := b0.below hb
    replace b1 := b1.below hb
    replace H0 := H0.trans (hb.mono H0.size)
    clear hb
    go_wp2_with fail
    go_returns
    exact ⟨by simp, H0⟩
  · skip
    go_enter Tryz.func73, Tryz.ntmps73
    go_wp2_with fail
    obtain ⟨W0, hW, b0, b1, hbW, hszW0⟩ := boxes2 w #[.bool false, .slice A0 n0 c0] #[.bool true, .slice A1 n1 c1] 25 25
    rw [hW]
    clear hW
    replace h := h.below hbW
    replace h' := h'.below hbW
    have H0 := hbW
    clear hbW
    have cb00 := b0.cell 0 _ rfl
    have cb01 := b0.cell 1 _ rfl
    have cb10 := b1.cell 0 _ rfl
    have cb11 := b1.cell 1 _ rfl
    go_wp2_with fail
    go_returns
    exact ⟨by simp, H0⟩
  · skip
    go_enter Tryz.func73, Tryz.ntmps73
    go_wp2_with fail
    obtain ⟨W0, hW, b0, b1, hbW, hszW0⟩ := boxes2 w #[.bool true, .slice A0 n0 c0] #[.bool false, .slice A1 n1 c1] 25 25
    rw [hW]
    clear hW
    replace h := h.below hbW
    replace h' := h'.below hbW
    have H0 := hbW
    clear hbW
    have cb00 := b0.cell 0 _ rfl
    have cb01 := b0.cell 1 _ rfl
    have cb10 := b1.cell 0 _ rfl
    have cb11 := b1.cell 1 _ rfl
    go_wp2_with fail
    go_returns
    exact ⟨by simp, H0⟩
  · skip
    go_enter Tryz.func73, Tryz.ntmps73
    go_wp2_with fail
    obtain ⟨W0, hW, b0, b1, hbW, hszW0⟩ := boxes2 w #[.bool true, .slice A0 n0 c0] #[.bool true, .slice A1 n1 c1] 25 25
    rw [hW]
    clear hW
    replace h := h.below hbW
    replace h' := h'.below hbW
    have H0 := hbW
    clear hbW
    have cb00 := b0.cell 0 _ rfl
    have cb01 := b0.cell 1 _ rfl
    have cb10 := b1.cell 0 _ rfl
    have cb11 := b1.cell 1 _ rfl
    go_wp2_with fail
    clear cb00 cb01 cb10 cb11
    refine (samen_r h h').mono ?_
    rintro e w1 ⟨rfl, hb⟩
    replace h := h.below hb
    replace h' := h'.below hb
    replace b0 := b0.below hb
    replace b1 := b1.below hb
    replace H0 := H0.trans (hb.mono H0.size)
    clear hb
    go_wp2_with fail
    go_returns
    exact ⟨by simp, H0⟩
set_option maxRecDepth 100000 in
set_option maxHeartbeats 800000 in
theorem sameq_r {ds ds' es es' : List Nat} (h1 : Raw w (.slice A0 n0 c0) ds) (h2 : Raw w (.slice D0 m0 e0) es) (h1' : Raw w (.slice A1 n1 c1) ds') (h2' : Raw w (.slice D1 m1 e1) es') :
    Calls Tryz.prog 28 #[.agg #[.bool s0, .slice A0 n0 c0, .slice D0 m0 e0], .agg #[.bool s1, .slice A1 n1 c1, .slice D1 m1 e1]] w fun e w' => e = .returned (.bool ((decide (s0 = s1) && decide (ds = ds')) && decide (es = es'))) ∧ Below w.heap.size w w' := by
  obtain ⟨b, hb⟩ : ∃ b, (decide (s0 = s1) && decide (ds = ds')) = b := ⟨_, rfl⟩
  rw [hb]
  have HB := Lib.hid hb
  clear hb
  cases b
  · skip
    go_enter Tryz.func28, Tryz.ntmps28
    go_wp2_with fail
    obtain ⟨W0, hW, b0, b1, hbW, hszW0⟩ := boxes2 w #[.bool s0, .slice A0 n0 c0, .slice D0 m0 e0] #[.bool s1, .slice A1 n1 c1, .slice D1 m1 e1] 27 27
    rw [hW]
    clear hW
    replace h1 := h1.below hbW
    replace h2 := h2.below hbW
    replace h1' := h1'.below hbW
    replace h2' := h2'.below hbW
    have H0 := hbW
    clear hbW
    have cb00 := b0.cell 0 _ rfl
    have cb01 := b0.cell 1 _ rfl
    have cb02 := b0.cell 2 _ rfl
    have cb10 := b1.cell 0 _ rfl
    have cb11 := b1.cell 1 _ rfl
    have cb12 := b1.cell 2 _ rfl
    go_wp2_with fail
    clear cb00 cb01 cb02 cb10 cb11 cb12
    refine (samei_r h1 h1').mono ?_
    rintro e w1 ⟨rfl, hb⟩
    replace h1 := h1.below hb
    replace h2 := h2.below hb
    replace h1' := h1'.below hb
    replace h2' := h2'.below hb
    replace b0 := b0.below hb
    replace b1 := b1.below hb
    replace H0 := H0.trans (hb.mono H0.size)
    clear hb
    rw [HB.out]
    have cb00 := b0.cell 0 _ rfl
    have cb01 := b0.cell 1 _ rfl
    have cb02 := b0.cell 2 _ rfl
    have cb10 := b1.cell 0 _ rfl
    have cb11 := b1.cell 1 _ rfl
    have cb12 := b1.cell 2 _ rfl
    go_wp2_with fail
    go_returns
    exact ⟨by simp, H0⟩
  · skip
    go_enter Tryz.func28, Tryz.ntmps28
    go_wp2_with fail
    obtain ⟨W0, hW, b0, b1, hbW, hszW0⟩ := boxes2 w #[.bool s0, .slice A0 n0 c0, .slice D0 m0 e0] #[.bool s1, .slice A1 n1 c1, .slice D1 m1 e1] 27 27
    rw [hW]
    clear hW
    replace h1 := h1.below hbW
    replace h2 := h2.below hbW
    replace h1' := h1'.below hbW
    replace h2' := h2'.below hbW
    have H0 := hbW
    clear hbW
    have cb00 := b0.cell 0 _ rfl
    have cb01 := b0.cell 1 _ rfl
    have cb02 := b0.cell 2 _ rfl
    have cb10 := b1.cell 0 _ rfl
    have cb11 := b1.cell 1 _ rfl
    have cb12 := b1.cell 2 _ rfl
    go_wp2_with fail
    clear cb00 cb01 cb02 cb10 cb11 cb12
    refine (samei_r h1 h1').mono ?_
    rintro e w1 ⟨rfl, hb⟩
    replace h1 := h1.below hb
    replace h2 := h2.below hb
    replace h1' := h1'.below hb
    replace h2' := h2'.below hb
    replace b0 := b0.below hb
    replace b1 := b1.below hb
    replace H0 := H0.trans (hb.mono H0.size)
    clear hb
    rw [HB.out]
    have cb00 := b0.cell 0 _ rfl
    have cb01 := b0.cell 1 _ rfl
    have cb02 := b0.cell 2 _ rfl
    have cb10 := b1.cell 0 _ rfl
    have cb11 := b1.cell 1 _ rfl
    have cb12 := b1.cell 2 _ rfl
    go_wp2_with fail
    clear cb00 cb01 cb02 cb10 cb11 cb12
    refine (samen_r h2 h2').mono ?_
    rintro e w2 ⟨rfl, hb⟩
    replace h1 := h1.below hb
    replace h2 := h2.below hb
    replace h1' := h1'.below hb
    replace h2' := h2'.below hb
    replace b0 := b0.below hb
    replace b1 := b1.below hb
    replace H0 := H0.trans (hb.mono H0.size)
    clear hb
    go_wp2_with fail
    go_returns
    exact ⟨by simp, H0⟩
theorem same_rat (q q' : Rat) : ((decide (decide (q.num < 0) = decide (q'.num < 0)) && decide (digs q.num.natAbs = digs q'.num.natAbs)) && decide (digs q.den = digs q'.den)) = decide (q = q') := by
  simp only [digs_iff]
  by_cases h : q = q'
  · subst h; simp
  · rw [decide_eq_false h]
    by_cases h1 : q.num = q'.num
    · have h2 : q.den ≠ q'.den := fun h2 => h (Rat.ext h1 h2)
      simp [h2]
    · by_cases h3 : q.num.natAbs = q'.num.natAbs
      · have h4 : decide (decide (q.num < 0) = decide (q'.num < 0)) = false := by
          rw [decide_eq_false_iff_not, decide_eq_decide]; omega
        rw [h4]; rfl
      · simp [h3]
theorem sameq_d {b : Bool} (h : NQ w s0 (.slice A0 n0 c0) (.slice D0 m0 e0) q L) (h' : NQ w s1 (.slice A1 n1 c1) (.slice D1 m1 e1) q' L0) (hb : decide (q = q') = b) :
    Calls Tryz.prog 28 #[.agg #[.bool s0, .slice A0 n0 c0, .slice D0 m0 e0], .agg #[.bool s1, .slice A1 n1 c1, .slice D1 m1 e1]] w fun e w' => e = .returned (.bool b) ∧ Below w.heap.size w w' := by
  obtain ⟨⟨a1, a2⟩, a3⟩ := h
  obtain ⟨⟨b1, b2⟩, b3⟩ := h'
  subst a2
  subst b2
  rw [same_rat q q' |>.symm] at hb
  subst hb
  exact sameq_r a1.1 a3.1 b1.1 b3.1
end
end Go.Proofs.YtlpgbflajcfgpaaGreatDoor
