/-
  The contracts of package rational: quotients, the middle, rounding.
-/
import Derived.Test.YtpgkkkodniiilaaGreatDoorWSq
import Derived.Test.YtpgkkkodniiilaaGreatDoorWRA
namespace Go.Proofs.YtpgkkkodniiilaaGreatDoor
open Go.RowKit
section
variable {A0 A1 A3 D0 D1 D3 : Option Addr} {n0 n1 n3 c0 c1 c3 m0 m1 m3 e0 e1 e3 : Nat} {s0 s1 s3 : Bool} {z z' z0 z1 z2 : Int} {q q' q0 q1 q2 : Rat} {L L0 L1 L2 x x0 x1 y : Nat} {k : Int} {w : World}
theorem div_mk {z0 z1 : Int} {d0 d1 : Nat} : mkRat z0 d0 / mkRat z1 d1 = Rat.divInt (z0 * (d1 : Int)) (z1 * (d0 : Int)) := by
  rw [Rat.div_def, ← Rat.divInt_ofNat z1 d1, Rat.inv_divInt, ← Rat.divInt_ofNat z0 d0, Rat.divInt_mul_divInt, Int.mul_comm (d0 : Int) z1]
theorem mid_mk {q : Rat} {z : Int} {d : Nat} (h : q = mkRat z d) : mkRat z (d * 2 ^ 1) = q / 2 := by
  have h2 : (2 : Rat) = mkRat 2 1 := rfl
  rw [h, h2, div_mk, Int.natCast_one, Int.mul_one, show (2 : Int) * (d : Int) = ((d * 2 ^ 1 : Nat) : Int) by omega, Rat.divInt_ofNat]
theorem shl1_v (hx : RV w (.slice A0 n0 c0) x L) (hL : L ≤ 1000000) :
    Calls Tryz.prog 136 #[.slice A0 n0 c0, .int .u64 1] w fun e w' => ∃ B m d, e = .returned (.slice B m d) ∧ NV w' (.slice B m d) (x * 2 ^ 1) (L + 1) ∧ Below w.heap.size w w' := by
  have hb := hx.lt
  refine (shl_v hx hL 1 (by omega)).mono ?_
  rintro e w' ⟨B, m, d, rfl, h, h'⟩
  exact ⟨B, m, d, rfl, ⟨h.1, by rw [Bs_succ]; omega⟩, h'⟩
set_option maxRecDepth 100000 in
theorem rmiddle_v (h : RQ w s0 (.slice A0 n0 c0) (.slice D0 m0 e0) q L) (h' : RQ w s1 (.slice A1 n1 c1) (.slice D1 m1 e1) q' L0) (hL : L ≤ 100000) (hL' : L0 ≤ 100000) :
    Calls Tryz.prog 108 #[.agg #[.bool s0, .slice A0 n0 c0, .slice D0 m0 e0], .agg #[.bool s1, .slice A1 n1 c1, .slice D1 m1 e1]] w fun e w' => ∃ s3 A3 n3 c3 D3 m3 e3, e = .returned (.agg #[.bool s3, .slice A3 n3 c3, .slice D3 m3 e3]) ∧ NQ w' s3 (.slice A3 n3 c3) (.slice D3 m3 e3) ((q+q')/2) (max L 2 + max L0 2 + 1 + 1) ∧ Below w.heap.size w w' := by
  go_enter Tryz.func108, Tryz.ntmps108
  go_wp2_with fail
  obtain ⟨W0, hW, b0, b1, b2, hbW, hszW0⟩ := boxes3 w #[.bool s0, .slice A0 n0 c0, .slice D0 m0 e0] #[.bool s1, .slice A1 n1 c1, .slice D1 m1 e1] #[.bool false, .slice none 0 0, .slice none 0 0] 28 28 28
  rw [hW]
  clear hW
  replace h := h.below hbW
  replace h' := h'.below hbW
  have H0 := hbW
  clear hbW
  obtain ⟨cb00, cb01, cb02⟩ := b0.cells3
  obtain ⟨cb10, cb11, cb12⟩ := b1.cells3
  go_wp2_with fail
  clear cb00 cb01 cb02 cb10 cb11 cb12
  refine (rsum_v h h' hL hL').mono ?_
  rintro e w1 ⟨s4, A4, n4, c4, D4, m4, e4, rfl, fr, hb⟩
  replace h := h.below hb
  replace h' := h'.below hb
  replace b0 := b0.below hb
  replace b1 := b1.below hb
  replace b2 := b2.below hb
  replace H0 := H0.trans (hb.mono H0.size)
  clear hb
  go_wp2_with fail
  clear h
  clear h'
  have lb0_2 := b0.lt
  have lb1_2 := b1.lt
  have lb2_2 := b2.lt
  obtain ⟨W2, hW, b4, hbW, hszW2⟩ := boxes1 w1 #[.bool s4, .slice A4 n4 c4, .slice D4 m4 e4] 28
  rw [hW]
  clear hW
  replace fr := fr.below hbW
  replace b0 := b0.below hbW
  replace b1 := b1.below hbW
  replace b2 := b2.below hbW
  replace H0 := H0.trans (hbW.mono H0.size)
  clear hbW
  obtain ⟨z, d, hz, hd, hn, hq⟩ := fr
  have HQ := Lib.hid (mid_mk hq)
  have HN : Hid (d * 2 ^ 1 ≠ 0) := Lib.hid (by omega)
  clear hn hq
  have hD := drawn_below W2
  replace hz := hz.below hD
  replace hd := hd.below hD
  replace b0 := b0.below hD
  replace b1 := b1.below hD
  replace b2 := b2.below hD
  replace b4 := b4.below hD
  replace H0 := H0.trans (hD.mono H0.size)
  clear hD
  have K0 := (b4.all3)
  go_region_held3 (fun V => V.cell? ⟨w1.heap.size, 0, none⟩ = some (.bool s4) ∧ V.cell? ⟨w1.heap.size, 1, none⟩ = some (.slice A4 n4 c4) ∧ V.cell? ⟨w1.heap.size, 2, none⟩ = some (.slice D4 m4 e4)) (first | exact KS | exact K2 | exact K1 | exact K0 | go_keep)
    (first
      | (go_at_call 136; with_reducible refine (shl1_v hd (by omega)).mono ?_; rintro e v3 ⟨D5, m5, e5, rfl, f5, hb⟩; have hz := hz.below hb; have hd := hd.below hb; have b0 := b0.below hb; have b1 := b1.below hb; have b2 := b2.below hb; have b4 := b4.below hb; have H0 := H0.trans (hb.mono H0.size); have K1 := (b4.all3); clear hb)
      | (go_at_call 135; with_reducible refine (rlowest_v (hz.more (by omega)) f5.rv HN.out (by omega)).mono ?_; rintro e v4 ⟨s3, A3, n3, c3, D3, m3, e3, rfl, fq, hb⟩; have hz := hz.below hb; have hd := hd.below hb; have f5 := f5.below hb; have b0 := b0.below hb; have b1 := b1.below hb; have b2 := b2.below hb; have b4 := b4.below hb; have H0 := H0.trans (hb.mono H0.size); clear f5; have K2 := (b4.all3); have r0 := b2.cell 0 _ rfl; have f_0 := b2.frozen 0; have r1 := b2.cell 1 _ rfl; have f_1 := b2.frozen 1; have r2 := b2.cell 2 _ rfl; have f_2 := b2.frozen 2; have hg := only_store3 v4 (w.heap.size + 1 + 1) (.bool s3) (.slice A3 n3 c3) (.slice D3 m3 e3); have KS := ((b4.other hg (by omega)).all3); clear hb)
    )
  have hB := b2.stored3 (.bool s3) (.slice A3 n3 c3) (.slice D3 m3 e3)
  go_wp2_with fail
  generalize hX : (((v4.setCell ⟨w.heap.size + 1 + 1, 0, none⟩ (.bool s3)).setCell ⟨w.heap.size + 1 + 1, 1, none⟩ (.slice A3 n3 c3)).setCell ⟨w.heap.size + 1 + 1, 2, none⟩ (.slice D3 m3 e3)) = X5 at hg hB ⊢
  clear hX r0 f_0 r1 f_1 r2 f_2
  replace hz := hz.kept b2 (by simp [notInt]) hg
  replace hd := hd.kept b2 (by simp [notInt]) hg
  replace fq := fq.kept b2 (by simp [notInt]) hg
  replace b0 := b0.other hg (by omega)
  replace b1 := b1.other hg (by omega)
  replace b4 := b4.other hg (by omega)
  replace b2 := hB
  replace H0 := below_only H0 hg (by omega) H0.size
  clear hg hB
  refine bodyPost_ret (ret_rat rfl rfl b2) rfl ?_
  exact ⟨s3, A3, n3, c3, D3, m3, e3, rfl, by rw [← HQ.out]; exact fq, H0⟩
end
end Go.Proofs.YtpgkkkodniiilaaGreatDoor
