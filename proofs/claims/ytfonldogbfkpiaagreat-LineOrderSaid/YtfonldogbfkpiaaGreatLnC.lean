/-
  The order of lines.
-/
import Derived.Test.YtfonldogbfkpiaaGreatLnW
import Derived.Test.YtfonldogbfkpiaaGreatLnG
namespace Go.Proofs.YtfonldogbfkpiaaGreat
open Go.RowKit

section
variable {A0 A1 A2 A3 A4 A5 A6 A7 A8 A9 A10 A11 A12 A13 A14 A15 A16 A17 A18 A19 A20 A21 A22 A23 D0 D1 D2 D3 D4 D5 D6 D7 D8 D9 D10 D11 D12 D13 D14 D15 D16 D17 D18 D19 D20 D21 D22 D23 : Option Addr} {n0 n1 n2 n3 n4 n5 n6 n7 n8 n9 n10 n11 n12 n13 n14 n15 n16 n17 n18 n19 n20 n21 n22 n23 c0 c1 c2 c3 c4 c5 c6 c7 c8 c9 c10 c11 c12 c13 c14 c15 c16 c17 c18 c19 c20 c21 c22 c23 m0 m1 m2 m3 m4 m5 m6 m7 m8 m9 m10 m11 m12 m13 m14 m15 m16 m17 m18 m19 m20 m21 m22 m23 e0 e1 e2 e3 e4 e5 e6 e7 e8 e9 e10 e11 e12 e13 e14 e15 e16 e17 e18 e19 e20 e21 e22 e23 : Nat} {s0 s1 s2 s3 s4 s5 s6 s7 s8 s9 s10 s11 s12 s13 s14 s15 s16 s17 s18 s19 s20 s21 s22 s23 : Bool} {q0 q1 q2 q3 q4 q5 q6 q7 : Rat} {z0 z1 z2 z3 z4 z5 z6 z7 z8 z9 z10 z11 : Int} {L L0 L1 x y : Nat} {k : Int} {b : Bool} {w : World}
set_option maxRecDepth 100000 in
set_option maxHeartbeats 4000000 in
theorem lcf_v {g0 g1 : Nat} (b0 : Box w g0 #[.bool s0, .slice A0 n0 c0, .bool s1, .slice A1 n1 c1, .bool s2, .slice A2 n2 c2] 58) (b1 : Box w g1 #[.bool s3, .slice A3 n3 c3, .bool s4, .slice A4 n4 c4, .bool s5, .slice A5 n5 c5] 58) (h0 : RI w s0 (.slice A0 n0 c0) z0 L) (h1 : RI w s1 (.slice A1 n1 c1) z1 L) (h2 : RI w s2 (.slice A2 n2 c2) z2 L) (h3 : RI w s3 (.slice A3 n3 c3) z3 L) (h4 : RI w s4 (.slice A4 n4 c4) z4 L) (h5 : RI w s5 (.slice A5 n5 c5) z5 L) (hk : cmp3 z0 z1 z2 z3 z4 z5 = k) :
    Calls Tryz.prog 44 #[.slice (some ⟨g0, 0, none⟩) 3 3, .slice (some ⟨g1, 0, none⟩) 3 3, .func (.func 45) #[] #[]] w fun e w' => e = .returned (.int .i64 k) ∧ Below w.heap.size w w' := by
  rcases cmp3_cases hk with ⟨k0, kn⟩ | ⟨k0, k1, kn⟩ | ⟨k0, k1, k2⟩
  · clear hk
    have HK0 := Lib.hid k0
    clear k0
    go_enter Tryz.func44, Tryz.ntmps44
    go_wp2_with fail
    have H0 := Below.refl w.heap.size w
    refine wp_loop_rounds 4 ?_
    rw [rounds_succ]
    have da := b0.cell 0 _ rfl
    have db := b0.cell 1 _ rfl
    have lb0_0 := b0.lt
    have lb1_0 := b1.lt
    obtain ⟨W0, hW, bi, hbW, hszW0⟩ := boxes1 w #[.bool s0, .slice A0 n0 c0] 28
    skip
    skip
    replace h0 := h0.below hbW
    replace h1 := h1.below hbW
    replace h2 := h2.below hbW
    replace h3 := h3.below hbW
    replace h4 := h4.below hbW
    replace h5 := h5.below hbW
    replace b0 := b0.below hbW
    replace b1 := b1.below hbW
    replace H0 := H0.trans (hbW.mono H0.size)
    clear hbW
    have hWa := hW
    clear hW
    have dc := b1.cell 0 _ rfl
    have dd := b1.cell 1 _ rfl
    have lb0_1 := b0.lt
    have lb1_1 := b1.lt
    have lbi_1 := bi.lt
    obtain ⟨W1, hW, bj, hbW, hszW1⟩ := boxes1 W0 #[.bool s3, .slice A3 n3 c3] 28
    skip
    skip
    replace h0 := h0.below hbW
    replace h1 := h1.below hbW
    replace h2 := h2.below hbW
    replace h3 := h3.below hbW
    replace h4 := h4.below hbW
    replace h5 := h5.below hbW
    replace b0 := b0.below hbW
    replace b1 := b1.below hbW
    replace bi := bi.below hbW
    replace H0 := H0.trans (hbW.mono H0.size)
    clear hbW
    have hWb := hW
    clear hW
    rw [hszW0] at bj
    have cbi0 := bi.cell 0 _ rfl
    have cbi1 := bi.cell 1 _ rfl
    have cbj0 := bj.cell 0 _ rfl
    have cbj1 := bj.cell 1 _ rfl
    go_wp2_with fail
    clear da db dc dd hWa hWb hszW0 hszW1
    clear cbi0 cbi1 cbj0 cbj1
    refine (icmp_is h0 h3 HK0.out).mono ?_
    rintro e w2 ⟨rfl, hb⟩
    replace h0 := h0.below hb
    replace h1 := h1.below hb
    replace h2 := h2.below hb
    replace h3 := h3.below hb
    replace h4 := h4.below hb
    replace h5 := h5.below hb
    replace b0 := b0.below hb
    replace b1 := b1.below hb
    replace bi := bi.below hb
    replace bj := bj.below hb
    replace H0 := H0.trans (hb.mono H0.size)
    clear hb
    go_wp2_with fail
    clear bi
    clear bj
    go_returns
    exact ⟨rfl, H0⟩
  · clear hk
    have HK0 := Lib.hid k0
    clear k0
    have HK1 := Lib.hid k1
    clear k1
    go_enter Tryz.func44, Tryz.ntmps44
    go_wp2_with fail
    have H0 := Below.refl w.heap.size w
    refine wp_loop_rounds 4 ?_
    rw [rounds_succ]
    have da := b0.cell 0 _ rfl
    have db := b0.cell 1 _ rfl
    have lb0_0 := b0.lt
    have lb1_0 := b1.lt
    obtain ⟨W0, hW, bi, hbW, hszW0⟩ := boxes1 w #[.bool s0, .slice A0 n0 c0] 28
    skip
    skip
    replace h0 := h0.below hbW
    replace h1 := h1.below hbW
    replace h2 := h2.below hbW
    replace h3 := h3.below hbW
    replace h4 := h4.below hbW
    replace h5 := h5.below hbW
    replace b0 := b0.below hbW
    replace b1 := b1.below hbW
    replace H0 := H0.trans (hbW.mono H0.size)
    clear hbW
    have hWa := hW
    clear hW
    have dc := b1.cell 0 _ rfl
    have dd := b1.cell 1 _ rfl
    have lb0_1 := b0.lt
    have lb1_1 := b1.lt
    have lbi_1 := bi.lt
    obtain ⟨W1, hW, bj, hbW, hszW1⟩ := boxes1 W0 #[.bool s3, .slice A3 n3 c3] 28
    skip
    skip
    replace h0 := h0.below hbW
    replace h1 := h1.below hbW
    replace h2 := h2.below hbW
    replace h3 := h3.below hbW
    replace h4 := h4.below hbW
    replace h5 := h5.below hbW
    replace b0 := b0.below hbW
    replace b1 := b1.below hbW
    replace bi := bi.below hbW
    replace H0 := H0.trans (hbW.mono H0.size)
    clear hbW
    have hWb := hW
    clear hW
    rw [hszW0] at bj
    have cbi0 := bi.cell 0 _ rfl
    have cbi1 := bi.cell 1 _ rfl
    have cbj0 := bj.cell 0 _ rfl
    have cbj1 := bj.cell 1 _ rfl
    go_wp2_with fail
    clear da db dc dd hWa hWb hszW0 hszW1
    clear cbi0 cbi1 cbj0 cbj1
    refine (icmp_is h0 h3 HK0.out).mono ?_
    rintro e w2 ⟨rfl, hb⟩
    replace h0 := h0.below hb
    replace h1 := h1.below hb
    replace h2 := h2.below hb
    replace h3 := h3.below hb
    replace h4 := h4.below hb
    replace h5 := h5.below hb
    replace b0 := b0.below hb
    replace b1 := b1.below hb
    replace bi := bi.below hb
    replace bj := bj.below hb
    replace H0 := H0.trans (hb.mono H0.size)
    clear hb
    go_wp2_with fail
    clear bi
    clear bj
    rw [rounds_succ]
    have da := b0.cell 2 _ rfl
    have db := b0.cell 3 _ rfl
    have lb0_3 := b0.lt
    have lb1_3 := b1.lt
    obtain ⟨W3, hW, bi, hbW, hszW3⟩ := boxes1 w2 #[.bool s1, .slice A1 n1 c1] 28
    skip
    skip
    replace h0 := h0.below hbW
    replace h1 := h1.below hbW
    replace h2 := h2.below hbW
    replace h3 := h3.below hbW
    replace h4 := h4.below hbW
    replace h5 := h5.below hbW
    replace b0 := b0.below hbW
    replace b1 := b1.below hbW
    replace H0 := H0.trans (hbW.mono H0.size)
    clear hbW
    have hWa := hW
    clear hW
    have dc := b1.cell 2 _ rfl
    have dd := b1.cell 3 _ rfl
    have lb0_4 := b0.lt
    have lb1_4 := b1.lt
    have lbi_4 := bi.lt
    obtain ⟨W4, hW, bj, hbW, hszW4⟩ := boxes1 W3 #[.bool s4, .slice A4 n4 c4] 28
    skip
    skip
    replace h0 := h0.below hbW
    replace h1 := h1.below hbW
    replace h2 := h2.below hbW
    replace h3 := h3.below hbW
    replace h4 := h4.below hbW
    replace h5 := h5.below hbW
    replace b0 := b0.below hbW
    replace b1 := b1.below hbW
    replace bi := bi.below hbW
    replace H0 := H0.trans (hbW.mono H0.size)
    clear hbW
    have hWb := hW
    clear hW
    rw [hszW3] at bj
    have cbi0 := bi.cell 0 _ rfl
    have cbi1 := bi.cell 1 _ rfl
    have cbj0 := bj.cell 0 _ rfl
    have cbj1 := bj.cell 1 _ rfl
    go_wp2_with fail
    clear da db dc dd hWa hWb hszW3 hszW4
    clear cbi0 cbi1 cbj0 cbj1
    refine (icmp_is h1 h4 HK1.out).mono ?_
    rintro e w5 ⟨rfl, hb⟩
    replace h0 := h0.below hb
    replace h1 := h1.below hb
    replace h2 := h2.below hb
    replace h3 := h3.below hb
    replace h4 := h4.below hb
    replace h5 := h5.below hb
    replace b0 := b0.below hb
    replace b1 := b1.below hb
    replace bi := bi.below hb
    replace bj := bj.below hb
    replace H0 := H0.trans (hb.mono H0.size)
    clear hb
    go_wp2_with fail
    clear bi
    clear bj
    go_returns
    exact ⟨rfl, H0⟩
  · clear hk
    have HK0 := Lib.hid k0
    clear k0
    have HK1 := Lib.hid k1
    clear k1
    have HK2 := Lib.hid k2
    clear k2
    rcases Decidable.em (k = 0) with kz | kz
    · subst kz
      go_enter Tryz.func44, Tryz.ntmps44
      go_wp2_with fail
      have H0 := Below.refl w.heap.size w
      refine wp_loop_rounds 4 ?_
      rw [rounds_succ]
      have da := b0.cell 0 _ rfl
      have db := b0.cell 1 _ rfl
      have lb0_0 := b0.lt
      have lb1_0 := b1.lt
      obtain ⟨W0, hW, bi, hbW, hszW0⟩ := boxes1 w #[.bool s0, .slice A0 n0 c0] 28
      skip
      skip
      replace h0 := h0.below hbW
      replace h1 := h1.below hbW
      replace h2 := h2.below hbW
      replace h3 := h3.below hbW
      replace h4 := h4.below hbW
      replace h5 := h5.below hbW
      replace b0 := b0.below hbW
      replace b1 := b1.below hbW
      replace H0 := H0.trans (hbW.mono H0.size)
      clear hbW
      have hWa := hW
      clear hW
      have dc := b1.cell 0 _ rfl
      have dd := b1.cell 1 _ rfl
      have lb0_1 := b0.lt
      have lb1_1 := b1.lt
      have lbi_1 := bi.lt
      obtain ⟨W1, hW, bj, hbW, hszW1⟩ := boxes1 W0 #[.bool s3, .slice A3 n3 c3] 28
      skip
      skip
      replace h0 := h0.below hbW
      replace h1 := h1.below hbW
      replace h2 := h2.below hbW
      replace h3 := h3.below hbW
      replace h4 := h4.below hbW
      replace h5 := h5.below hbW
      replace b0 := b0.below hbW
      replace b1 := b1.below hbW
      replace bi := bi.below hbW
      replace H0 := H0.trans (hbW.mono H0.size)
      clear hbW
      have hWb := hW
      clear hW
      rw [hszW0] at bj
      have cbi0 := bi.cell 0 _ rfl
      have cbi1 := bi.cell 1 _ rfl
      have cbj0 := bj.cell 0 _ rfl
      have cbj1 := bj.cell 1 _ rfl
      go_wp2_with fail
      clear da db dc dd hWa hWb hszW0 hszW1
      clear cbi0 cbi1 cbj0 cbj1
      refine (icmp_is h0 h3 HK0.out).mono ?_
      rintro e w2 ⟨rfl, hb⟩
      replace h0 := h0.below hb
      replace h1 := h1.below hb
      replace h2 := h2.below hb
      replace h3 := h3.below hb
      replace h4 := h4.below hb
      replace h5 := h5.below hb
      replace b0 := b0.below hb
      replace b1 := b1.below hb
      replace bi := bi.below hb
      replace bj := bj.below hb
      replace H0 := H0.trans (hb.mono H0.size)
      clear hb
      go_wp2_with fail
      clear bi
      clear bj
      rw [rounds_succ]
      have da := b0.cell 2 _ rfl
      have db := b0.cell 3 _ rfl
      have lb0_3 := b0.lt
      have lb1_3 := b1.lt
      obtain ⟨W3, hW, bi, hbW, hszW3⟩ := boxes1 w2 #[.bool s1, .slice A1 n1 c1] 28
      skip
      skip
      replace h0 := h0.below hbW
      replace h1 := h1.below hbW
      replace h2 := h2.below hbW
      replace h3 := h3.below hbW
      replace h4 := h4.below hbW
      replace h5 := h5.below hbW
      replace b0 := b0.below hbW
      replace b1 := b1.below hbW
      replace H0 := H0.trans (hbW.mono H0.size)
      clear hbW
      have hWa := hW
      clear hW
      have dc := b1.cell 2 _ rfl
      have dd := b1.cell 3 _ rfl
      have lb0_4 := b0.lt
      have lb1_4 := b1.lt
      have lbi_4 := bi.lt
      obtain ⟨W4, hW, bj, hbW, hszW4⟩ := boxes1 W3 #[.bool s4, .slice A4 n4 c4] 28
      skip
      skip
      replace h0 := h0.below hbW
      replace h1 := h1.below hbW
      replace h2 := h2.below hbW
      replace h3 := h3.below hbW
      replace h4 := h4.below hbW
      replace h5 := h5.below hbW
      replace b0 := b0.below hbW
      replace b1 := b1.below hbW
      replace bi := bi.below hbW
      replace H0 := H0.trans (hbW.mono H0.size)
      clear hbW
      have hWb := hW
      clear hW
      rw [hszW3] at bj
      have cbi0 := bi.cell 0 _ rfl
      have cbi1 := bi.cell 1 _ rfl
      have cbj0 := bj.cell 0 _ rfl
      have cbj1 := bj.cell 1 _ rfl
      go_wp2_with fail
      clear da db dc dd hWa hWb hszW3 hszW4
      clear cbi0 cbi1 cbj0 cbj1
      refine (icmp_is h1 h4 HK1.out).mono ?_
      rintro e w5 ⟨rfl, hb⟩
      replace h0 := h0.below hb
      replace h1 := h1.below hb
      replace h2 := h2.below hb
      replace h3 := h3.below hb
      replace h4 := h4.below hb
      replace h5 := h5.below hb
      replace b0 := b0.below hb
      replace b1 := b1.below hb
      replace bi := bi.below hb
      replace bj := bj.below hb
      replace H0 := H0.trans (hb.mono H0.size)
      clear hb
      go_wp2_with fail
      clear bi
      clear bj
      rw [rounds_succ]
      have da := b0.cell 4 _ rfl
      have db := b0.cell 5 _ rfl
      have lb0_6 := b0.lt
      have lb1_6 := b1.lt
      obtain ⟨W6, hW, bi, hbW, hszW6⟩ := boxes1 w5 #[.bool s2, .slice A2 n2 c2] 28
      skip
      skip
      replace h0 := h0.below hbW
      replace h1 := h1.below hbW
      replace h2 := h2.below hbW
      replace h3 := h3.below hbW
      replace h4 := h4.below hbW
      replace h5 := h5.below hbW
      replace b0 := b0.below hbW
      replace b1 := b1.below hbW
      replace H0 := H0.trans (hbW.mono H0.size)
      clear hbW
      have hWa := hW
      clear hW
      have dc := b1.cell 4 _ rfl
      have dd := b1.cell 5 _ rfl
      have lb0_7 := b0.lt
      have lb1_7 := b1.lt
      have lbi_7 := bi.lt
      obtain ⟨W7, hW, bj, hbW, hszW7⟩ := boxes1 W6 #[.bool s5, .slice A5 n5 c5] 28
      skip
      skip
      replace h0 := h0.below hbW
      replace h1 := h1.below hbW
      replace h2 := h2.below hbW
      replace h3 := h3.below hbW
      replace h4 := h4.below hbW
      replace h5 := h5.below hbW
      replace b0 := b0.below hbW
      replace b1 := b1.below hbW
      replace bi := bi.below hbW
      replace H0 := H0.trans (hbW.mono H0.size)
      clear hbW
      have hWb := hW
      clear hW
      rw [hszW6] at bj
      have cbi0 := bi.cell 0 _ rfl
      have cbi1 := bi.cell 1 _ rfl
      have cbj0 := bj.cell 0 _ rfl
      have cbj1 := bj.cell 1 _ rfl
      go_wp2_with fail
      clear da db dc dd hWa hWb hszW6 hszW7
      clear cbi0 cbi1 cbj0 cbj1
      refine (icmp_is h2 h5 HK2.out).mono ?_
      rintro e w8 ⟨rfl, hb⟩
      replace h0 := h0.below hb
      replace h1 := h1.below hb
      replace h2 := h2.below hb
      replace h3 := h3.below hb
      replace h4 := h4.below hb
      replace h5 := h5.below hb
      replace b0 := b0.below hb
      replace b1 := b1.below hb
      replace bi := bi.below hb
      replace bj := bj.below hb
      replace H0 := H0.trans (hb.mono H0.size)
      clear hb
      go_wp2_with fail
      clear bi
      clear bj
      rw [rounds_succ]
      go_wp2_with fail
      go_returns
      exact ⟨rfl, H0⟩
    · have kn : ((k : Int) != 0) = true := by rw [bne_iff_ne]; exact kz
      clear kz
      go_enter Tryz.func44, Tryz.ntmps44
      go_wp2_with fail
      have H0 := Below.refl w.heap.size w
      refine wp_loop_rounds 4 ?_
      rw [rounds_succ]
      have da := b0.cell 0 _ rfl
      have db := b0.cell 1 _ rfl
      have lb0_0 := b0.lt
      have lb1_0 := b1.lt
      obtain ⟨W0, hW, bi, hbW, hszW0⟩ := boxes1 w #[.bool s0, .slice A0 n0 c0] 28
      skip
      skip
      replace h0 := h0.below hbW
      replace h1 := h1.below hbW
      replace h2 := h2.below hbW
      replace h3 := h3.below hbW
      replace h4 := h4.below hbW
      replace h5 := h5.below hbW
      replace b0 := b0.below hbW
      replace b1 := b1.below hbW
      replace H0 := H0.trans (hbW.mono H0.size)
      clear hbW
      have hWa := hW
      clear hW
      have dc := b1.cell 0 _ rfl
      have dd := b1.cell 1 _ rfl
      have lb0_1 := b0.lt
      have lb1_1 := b1.lt
      have lbi_1 := bi.lt
      obtain ⟨W1, hW, bj, hbW, hszW1⟩ := boxes1 W0 #[.bool s3, .slice A3 n3 c3] 28
      skip
      skip
      replace h0 := h0.below hbW
      replace h1 := h1.below hbW
      replace h2 := h2.below hbW
      replace h3 := h3.below hbW
      replace h4 := h4.below hbW
      replace h5 := h5.below hbW
      replace b0 := b0.below hbW
      replace b1 := b1.below hbW
      replace bi := bi.below hbW
      replace H0 := H0.trans (hbW.mono H0.size)
      clear hbW
      have hWb := hW
      clear hW
      rw [hszW0] at bj
      have cbi0 := bi.cell 0 _ rfl
      have cbi1 := bi.cell 1 _ rfl
      have cbj0 := bj.cell 0 _ rfl
      have cbj1 := bj.cell 1 _ rfl
      go_wp2_with fail
      clear da db dc dd hWa hWb hszW0 hszW1
      clear cbi0 cbi1 cbj0 cbj1
      refine (icmp_is h0 h3 HK0.out).mono ?_
      rintro e w2 ⟨rfl, hb⟩
      replace h0 := h0.below hb
      replace h1 := h1.below hb
      replace h2 := h2.below hb
      replace h3 := h3.below hb
      replace h4 := h4.below hb
      replace h5 := h5.below hb
      replace b0 := b0.below hb
      replace b1 := b1.below hb
      replace bi := bi.below hb
      replace bj := bj.below hb
      replace H0 := H0.trans (hb.mono H0.size)
      clear hb
      go_wp2_with fail
      clear bi
      clear bj
      rw [rounds_succ]
      have da := b0.cell 2 _ rfl
      have db := b0.cell 3 _ rfl
      have lb0_3 := b0.lt
      have lb1_3 := b1.lt
      obtain ⟨W3, hW, bi, hbW, hszW3⟩ := boxes1 w2 #[.bool s1, .slice A1 n1 c1] 28
      skip
      skip
      replace h0 := h0.below hbW
      replace h1 := h1.below hbW
      replace h2 := h2.below hbW
      replace h3 := h3.below hbW
      replace h4 := h4.below hbW
      replace h5 := h5.below hbW
      replace b0 := b0.below hbW
      replace b1 := b1.below hbW
      replace H0 := H0.trans (hbW.mono H0.size)
      clear hbW
      have hWa := hW
      clear hW
      have dc := b1.cell 2 _ rfl
      have dd := b1.cell 3 _ rfl
      have lb0_4 := b0.lt
      have lb1_4 := b1.lt
      have lbi_4 := bi.lt
      obtain ⟨W4, hW, bj, hbW, hszW4⟩ := boxes1 W3 #[.bool s4, .slice A4 n4 c4] 28
      skip
      skip
      replace h0 := h0.below hbW
      replace h1 := h1.below hbW
      replace h2 := h2.below hbW
      replace h3 := h3.below hbW
      replace h4 := h4.below hbW
      replace h5 := h5.below hbW
      replace b0 := b0.below hbW
      replace b1 := b1.below hbW
      replace bi := bi.below hbW
      replace H0 := H0.trans (hbW.mono H0.size)
      clear hbW
      have hWb := hW
      clear hW
      rw [hszW3] at bj
      have cbi0 := bi.cell 0 _ rfl
      have cbi1 := bi.cell 1 _ rfl
      have cbj0 := bj.cell 0 _ rfl
      have cbj1 := bj.cell 1 _ rfl
      go_wp2_with fail
      clear da db dc dd hWa hWb hszW3 hszW4
      clear cbi0 cbi1 cbj0 cbj1
      refine (icmp_is h1 h4 HK1.out).mono ?_
      rintro e w5 ⟨rfl, hb⟩
      replace h0 := h0.below hb
      replace h1 := h1.below hb
      replace h2 := h2.below hb
      replace h3 := h3.below hb
      replace h4 := h4.below hb
      replace h5 := h5.below hb
      replace b0 := b0.below hb
      replace b1 := b1.below hb
      replace bi := bi.below hb
      replace bj := bj.below hb
      replace H0 := H0.trans (hb.mono H0.size)
      clear hb
      go_wp2_with fail
      clear bi
      clear bj
      rw [rounds_succ]
      have da := b0.cell 4 _ rfl
      have db := b0.cell 5 _ rfl
      have lb0_6 := b0.lt
      have lb1_6 := b1.lt
      obtain ⟨W6, hW, bi, hbW, hszW6⟩ := boxes1 w5 #[.bool s2, .slice A2 n2 c2] 28
      skip
      skip
      replace h0 := h0.below hbW
      replace h1 := h1.below hbW
      replace h2 := h2.below hbW
      replace h3 := h3.below hbW
      replace h4 := h4.below hbW
      replace h5 := h5.below hbW
      replace b0 := b0.below hbW
      replace b1 := b1.below hbW
      replace H0 := H0.trans (hbW.mono H0.size)
      clear hbW
      have hWa := hW
      clear hW
      have dc := b1.cell 4 _ rfl
      have dd := b1.cell 5 _ rfl
      have lb0_7 := b0.lt
      have lb1_7 := b1.lt
      have lbi_7 := bi.lt
      obtain ⟨W7, hW, bj, hbW, hszW7⟩ := boxes1 W6 #[.bool s5, .slice A5 n5 c5] 28
      skip
      skip
      replace h0 := h0.below hbW
      replace h1 := h1.below hbW
      replace h2 := h2.below hbW
      replace h3 := h3.below hbW
      replace h4 := h4.below hbW
      replace h5 := h5.below hbW
      replace b0 := b0.below hbW
      replace b1 := b1.below hbW
      replace bi := bi.below hbW
      replace H0 := H0.trans (hbW.mono H0.size)
      clear hbW
      have hWb := hW
      clear hW
      rw [hszW6] at bj
      have cbi0 := bi.cell 0 _ rfl
      have cbi1 := bi.cell 1 _ rfl
      have cbj0 := bj.cell 0 _ rfl
      have cbj1 := bj.cell 1 _ rfl
      go_wp2_with fail
      clear da db dc dd hWa hWb hszW6 hszW7
      clear cbi0 cbi1 cbj0 cbj1
      refine (icmp_is h2 h5 HK2.out).mono ?_
      rintro e w8 ⟨rfl, hb⟩
      replace h0 := h0.below hb
      replace h1 := h1.below hb
      replace h2 := h2.below hb
      replace h3 := h3.below hb
      replace h4 := h4.below hb
      replace h5 := h5.below hb
      replace b0 := b0.below hb
      replace b1 := b1.below hb
      replace bi := bi.below hb
      replace bj := bj.below hb
      replace H0 := H0.trans (hb.mono H0.size)
      clear hb
      go_wp2_with fail
      clear bi
      clear bj
      go_returns
      exact ⟨rfl, H0⟩
set_option maxRecDepth 100000 in
set_option maxHeartbeats 4000000 in
theorem lcmp_v (h0 : RI w s0 (.slice A0 n0 c0) z0 L) (h1 : RI w s1 (.slice A1 n1 c1) z1 L) (h2 : RI w s2 (.slice A2 n2 c2) z2 L) (h3 : RI w s3 (.slice A3 n3 c3) z3 L) (h4 : RI w s4 (.slice A4 n4 c4) z4 L) (h5 : RI w s5 (.slice A5 n5 c5) z5 L) (hk : cmp3 z0 z1 z2 z3 z4 z5 = k) :
    Calls Tryz.prog 20 #[.agg #[.bool s0, .slice A0 n0 c0, .bool s1, .slice A1 n1 c1, .bool s2, .slice A2 n2 c2], .agg #[.bool s3, .slice A3 n3 c3, .bool s4, .slice A4 n4 c4, .bool s5, .slice A5 n5 c5]] w fun e w' => e = .returned (.int .i64 k) ∧ Below w.heap.size w w' := by
  have HK := Lib.hid hk
  clear hk
  go_enter Tryz.func20, Tryz.ntmps20
  go_wp2_with fail
  obtain ⟨W0, hW, b0, b1, hbW, hszW0⟩ := boxes2 w #[.bool s0, .slice A0 n0 c0, .bool s1, .slice A1 n1 c1, .bool s2, .slice A2 n2 c2] #[.bool s3, .slice A3 n3 c3, .bool s4, .slice A4 n4 c4, .bool s5, .slice A5 n5 c5] 58 58
  rw [hW]
  clear hW
  replace h0 := h0.below hbW
  replace h1 := h1.below hbW
  replace h2 := h2.below hbW
  replace h3 := h3.below hbW
  replace h4 := h4.below hbW
  replace h5 := h5.below hbW
  have H0 := hbW
  clear hbW
  have hD := drawn_below W0
  replace h0 := h0.below hD
  replace h1 := h1.below hD
  replace h2 := h2.below hD
  replace h3 := h3.below hD
  replace h4 := h4.below hD
  replace h5 := h5.below hD
  replace b0 := b0.below hD
  replace b1 := b1.below hD
  replace H0 := H0.trans (hD.mono H0.size)
  clear hD
  refine wp_region_noPanic ?_
  refine wp_region_held_drew (S := (fun V => V.cell? ⟨w.heap.size, 0, none⟩ = some (.bool s0) ∧ V.cell? ⟨w.heap.size, 1, none⟩ = some (.slice A0 n0 c0) ∧ V.cell? ⟨w.heap.size, 2, none⟩ = some (.bool s1) ∧ V.cell? ⟨w.heap.size, 3, none⟩ = some (.slice A1 n1 c1) ∧ V.cell? ⟨w.heap.size, 4, none⟩ = some (.bool s2) ∧ V.cell? ⟨w.heap.size, 5, none⟩ = some (.slice A2 n2 c2) ∧ V.cell? ⟨w.heap.size + 1, 0, none⟩ = some (.bool s3) ∧ V.cell? ⟨w.heap.size + 1, 1, none⟩ = some (.slice A3 n3 c3) ∧ V.cell? ⟨w.heap.size + 1, 2, none⟩ = some (.bool s4) ∧ V.cell? ⟨w.heap.size + 1, 3, none⟩ = some (.slice A4 n4 c4) ∧ V.cell? ⟨w.heap.size + 1, 4, none⟩ = some (.bool s5) ∧ V.cell? ⟨w.heap.size + 1, 5, none⟩ = some (.slice A5 n5 c5))) (by kernel_rfl) ⟨b0.cell 0 _ rfl, b0.cell 1 _ rfl, b0.cell 2 _ rfl, b0.cell 3 _ rfl, b0.cell 4 _ rfl, b0.cell 5 _ rfl, b1.cell 0 _ rfl, b1.cell 1 _ rfl, b1.cell 2 _ rfl, b1.cell 3 _ rfl, b1.cell 4 _ rfl, b1.cell 5 _ rfl⟩ (fun hHeld => ?_)
  generalize W0.drew = v1 at H0 hHeld h0 h1 h2 h3 h4 h5 b0 b1 ⊢
  refine wpAnyH_take (i := 0) (v := ?_) rfl (by kernel_rfl) (by kernel_rfl) (by kernel_rfl) (fun _ _ _ h => h) (Or.inl ⟨by rfl, ?_⟩) (by assumption) ?_
  rotate_left
  · (intro w hSw; (try dsimp only at hSw); go_simp; (try with_reducible rfl))
  (try simp only [List.getElem_toArray, List.getElem_cons_zero, Act.put, List.setIfInBounds_toArray, List.set_cons_zero, List.set_cons_succ])
  refine wpAnyH_take (i := 1) (v := ?_) rfl (by kernel_rfl) (by kernel_rfl) (by kernel_rfl) (fun _ _ _ h => h) (Or.inl ⟨by rfl, ?_⟩) (by assumption) ?_
  rotate_left
  · (intro w hSw; (try dsimp only at hSw); go_simp; (try with_reducible rfl))
  (try simp only [List.getElem_toArray, List.getElem_cons_succ, List.getElem_cons_zero, Act.put, List.setIfInBounds_toArray, List.set_cons_zero, List.set_cons_succ])
  refine wpAnyH_ready (rs := [2]) (by kernel_rfl) (by simp) (AllReadyH.cons (o := _) rfl (fun K hK => ?_) AllReadyH.nil)
  go_simp
  go_at_call 44
  refine (lcf_v b0 b1 h0 h1 h2 h3 h4 h5 HK.out).mono ?_
  rintro e w2 ⟨rfl, hb⟩
  replace h0 := h0.below hb
  replace h1 := h1.below hb
  replace h2 := h2.below hb
  replace h3 := h3.below hb
  replace h4 := h4.below hb
  replace h5 := h5.below hb
  replace b0 := b0.below hb
  replace b1 := b1.below hb
  replace H0 := H0.trans (hb.mono H0.size)
  clear hb
  go_wp2_with fail
  refine hK.out _ _ ⟨b0.cell 0 _ rfl, b0.cell 1 _ rfl, b0.cell 2 _ rfl, b0.cell 3 _ rfl, b0.cell 4 _ rfl, b0.cell 5 _ rfl, b1.cell 0 _ rfl, b1.cell 1 _ rfl, b1.cell 2 _ rfl, b1.cell 3 _ rfl, b1.cell 4 _ rfl, b1.cell 5 _ rfl⟩ (fun hHeld => ?_)
  clear hK K
  (try simp only [List.getElem_toArray, List.getElem_cons_succ, List.getElem_cons_zero, Act.put, List.setIfInBounds_toArray, List.set_cons_zero, List.set_cons_succ])
  refine wpAnyH_take (i := 3) (v := ?_) rfl (by kernel_rfl) (by kernel_rfl) (by kernel_rfl) (fun _ _ _ h => h) (Or.inl ⟨by rfl, ?_⟩) (by assumption) ?_
  rotate_left
  · (intro w hSw; (try dsimp only at hSw); go_simp; (try with_reducible rfl))
  (try simp only [List.getElem_toArray, List.getElem_cons_succ, List.getElem_cons_zero, Act.put, List.setIfInBounds_toArray, List.set_cons_zero, List.set_cons_succ])
  refine wpAnyH_done (by kernel_rfl) ?_ _
  refine NoPanic.normal ?_
  go_wp2_with fail
  go_returns
  exact ⟨rfl, H0⟩
set_option maxRecDepth 100000 in
set_option maxHeartbeats 4000000 in
theorem lsame_v (h0 : NI w s0 (.slice A0 n0 c0) z0 L) (h1 : NI w s1 (.slice A1 n1 c1) z1 L) (h2 : NI w s2 (.slice A2 n2 c2) z2 L) (v0 : VL z0 z1 z2) (h3 : NI w s3 (.slice A3 n3 c3) z3 L) (h4 : NI w s4 (.slice A4 n4 c4) z4 L) (h5 : NI w s5 (.slice A5 n5 c5) z5 L) (v1 : VL z3 z4 z5) (hk : cmp3 z0 z1 z2 z3 z4 z5 = k) (hL : L ≤ 10000) :
    Calls Tryz.prog 11 #[.agg #[.bool s0, .slice A0 n0 c0, .bool s1, .slice A1 n1 c1, .bool s2, .slice A2 n2 c2], .agg #[.bool s3, .slice A3 n3 c3, .bool s4, .slice A4 n4 c4, .bool s5, .slice A5 n5 c5]] w fun e w' => e = .returned (.bool ((k : Int) == 0)) ∧ Below w.heap.size w w' := by
  have V0 := Lib.hid v0
  clear v0
  have V1 := Lib.hid v1
  clear v1
  have HK := Lib.hid hk
  clear hk
  cases hb0 : ((k : Int) == 0)
  · skip
    go_enter Tryz.func11, Tryz.ntmps11
    go_wp2_with fail
    obtain ⟨W0, hW, b0, b1, hbW, hszW0⟩ := boxes2 w #[.bool s0, .slice A0 n0 c0, .bool s1, .slice A1 n1 c1, .bool s2, .slice A2 n2 c2] #[.bool s3, .slice A3 n3 c3, .bool s4, .slice A4 n4 c4, .bool s5, .slice A5 n5 c5] 30 30
    rw [hW]
    clear hW
    replace h0 := h0.below hbW
    replace h1 := h1.below hbW
    replace h2 := h2.below hbW
    replace h3 := h3.below hbW
    replace h4 := h4.below hbW
    replace h5 := h5.below hbW
    have H0 := hbW
    clear hbW
    have hD := drawn_below W0
    replace h0 := h0.below hD
    replace h1 := h1.below hD
    replace h2 := h2.below hD
    replace h3 := h3.below hD
    replace h4 := h4.below hD
    replace h5 := h5.below hD
    replace b0 := b0.below hD
    replace b1 := b1.below hD
    replace H0 := H0.trans (hD.mono H0.size)
    clear hD
    refine wp_region_noPanic ?_
    refine wp_region_held_drew (S := (fun V => V.cell? ⟨w.heap.size, 0, none⟩ = some (.bool s0) ∧ V.cell? ⟨w.heap.size, 1, none⟩ = some (.slice A0 n0 c0) ∧ V.cell? ⟨w.heap.size, 2, none⟩ = some (.bool s1) ∧ V.cell? ⟨w.heap.size, 3, none⟩ = some (.slice A1 n1 c1) ∧ V.cell? ⟨w.heap.size, 4, none⟩ = some (.bool s2) ∧ V.cell? ⟨w.heap.size, 5, none⟩ = some (.slice A2 n2 c2) ∧ V.cell? ⟨w.heap.size + 1, 0, none⟩ = some (.bool s3) ∧ V.cell? ⟨w.heap.size + 1, 1, none⟩ = some (.slice A3 n3 c3) ∧ V.cell? ⟨w.heap.size + 1, 2, none⟩ = some (.bool s4) ∧ V.cell? ⟨w.heap.size + 1, 3, none⟩ = some (.slice A4 n4 c4) ∧ V.cell? ⟨w.heap.size + 1, 4, none⟩ = some (.bool s5) ∧ V.cell? ⟨w.heap.size + 1, 5, none⟩ = some (.slice A5 n5 c5))) (by kernel_rfl) ⟨b0.cell 0 _ rfl, b0.cell 1 _ rfl, b0.cell 2 _ rfl, b0.cell 3 _ rfl, b0.cell 4 _ rfl, b0.cell 5 _ rfl, b1.cell 0 _ rfl, b1.cell 1 _ rfl, b1.cell 2 _ rfl, b1.cell 3 _ rfl, b1.cell 4 _ rfl, b1.cell 5 _ rfl⟩ (fun hHeld => ?_)
    generalize W0.drew = v1 at H0 hHeld h0 h1 h2 h3 h4 h5 b0 b1 ⊢
    refine wpAnyH_take (i := 0) (v := ?_) rfl (by kernel_rfl) (by kernel_rfl) (by kernel_rfl) (fun _ _ _ h => h) (Or.inl ⟨by rfl, ?_⟩) (by assumption) ?_
    rotate_left
    · (intro w hSw; (try dsimp only at hSw); go_simp; (try with_reducible rfl))
    (try simp only [List.getElem_toArray, List.getElem_cons_zero, Act.put, List.setIfInBounds_toArray, List.set_cons_zero, List.set_cons_succ])
    refine wpAnyH_take (i := 2) (v := ?_) rfl (by kernel_rfl) (by kernel_rfl) (by kernel_rfl) (fun _ _ _ h => h) (Or.inl ⟨by rfl, ?_⟩) (by assumption) ?_
    rotate_left
    · (intro w hSw; (try dsimp only at hSw); go_simp; (try with_reducible rfl))
    (try simp only [List.getElem_toArray, List.getElem_cons_succ, List.getElem_cons_zero, Act.put, List.setIfInBounds_toArray, List.set_cons_zero, List.set_cons_succ])
    refine wpAnyH_ready (rs := [1]) (by kernel_rfl) (by simp) (AllReadyH.cons (o := _) rfl (fun K hK => ?_) AllReadyH.nil)
    go_simp
    go_at_call 19
    refine (lcoef_v).mono ?_
    rintro e w2 ⟨rfl, hb⟩
    replace h0 := h0.below hb
    replace h1 := h1.below hb
    replace h2 := h2.below hb
    replace h3 := h3.below hb
    replace h4 := h4.below hb
    replace h5 := h5.below hb
    replace b0 := b0.below hb
    replace b1 := b1.below hb
    replace H0 := H0.trans (hb.mono H0.size)
    clear hb
    go_wp2_with fail
    refine hK.out _ _ ⟨b0.cell 0 _ rfl, b0.cell 1 _ rfl, b0.cell 2 _ rfl, b0.cell 3 _ rfl, b0.cell 4 _ rfl, b0.cell 5 _ rfl, b1.cell 0 _ rfl, b1.cell 1 _ rfl, b1.cell 2 _ rfl, b1.cell 3 _ rfl, b1.cell 4 _ rfl, b1.cell 5 _ rfl⟩ (fun hHeld => ?_)
    clear hK K
    (try simp only [List.getElem_toArray, List.getElem_cons_succ, List.getElem_cons_zero, Act.put, List.setIfInBounds_toArray, List.set_cons_zero, List.set_cons_succ])
    refine wpAnyH_ready (rs := [3]) (by kernel_rfl) (by simp) (AllReadyH.cons (o := _) rfl (fun K hK => ?_) AllReadyH.nil)
    go_simp
    go_at_call 19
    refine (lcoef_v).mono ?_
    rintro e w3 ⟨rfl, hb⟩
    replace h0 := h0.below hb
    replace h1 := h1.below hb
    replace h2 := h2.below hb
    replace h3 := h3.below hb
    replace h4 := h4.below hb
    replace h5 := h5.below hb
    replace b0 := b0.below hb
    replace b1 := b1.below hb
    replace H0 := H0.trans (hb.mono H0.size)
    clear hb
    go_wp2_with fail
    refine hK.out _ _ ⟨b0.cell 0 _ rfl, b0.cell 1 _ rfl, b0.cell 2 _ rfl, b0.cell 3 _ rfl, b0.cell 4 _ rfl, b0.cell 5 _ rfl, b1.cell 0 _ rfl, b1.cell 1 _ rfl, b1.cell 2 _ rfl, b1.cell 3 _ rfl, b1.cell 4 _ rfl, b1.cell 5 _ rfl⟩ (fun hHeld => ?_)
    clear hK K
    (try simp only [List.getElem_toArray, List.getElem_cons_succ, List.getElem_cons_zero, Act.put, List.setIfInBounds_toArray, List.set_cons_zero, List.set_cons_succ])
    refine wpAnyH_ready (rs := [4]) (by kernel_rfl) (by simp) (AllReadyH.cons (o := _) rfl (fun K hK => ?_) AllReadyH.nil)
    go_simp
    go_at_call 20
    refine (lcmp_v h0.ri h1.ri h2.ri h3.ri h4.ri h5.ri HK.out).mono ?_
    rintro e w4 ⟨rfl, hb⟩
    replace h0 := h0.below hb
    replace h1 := h1.below hb
    replace h2 := h2.below hb
    replace h3 := h3.below hb
    replace h4 := h4.below hb
    replace h5 := h5.below hb
    replace b0 := b0.below hb
    replace b1 := b1.below hb
    replace H0 := H0.trans (hb.mono H0.size)
    clear hb
    go_wp2_with fail
    refine hK.out _ _ ⟨b0.cell 0 _ rfl, b0.cell 1 _ rfl, b0.cell 2 _ rfl, b0.cell 3 _ rfl, b0.cell 4 _ rfl, b0.cell 5 _ rfl, b1.cell 0 _ rfl, b1.cell 1 _ rfl, b1.cell 2 _ rfl, b1.cell 3 _ rfl, b1.cell 4 _ rfl, b1.cell 5 _ rfl⟩ (fun hHeld => ?_)
    clear hK K
    (try simp only [List.getElem_toArray, List.getElem_cons_succ, List.getElem_cons_zero, Act.put, List.setIfInBounds_toArray, List.set_cons_zero, List.set_cons_succ])
    refine wpAnyH_take (i := 5) (v := ?_) rfl (by kernel_rfl) (by kernel_rfl) (by kernel_rfl) (fun _ _ _ h => h) (Or.inl ⟨by rfl, ?_⟩) (by assumption) ?_
    rotate_left
    · (intro w hSw; (try dsimp only at hSw); go_simp; (try with_reducible rfl))
    (try simp only [List.getElem_toArray, List.getElem_cons_succ, List.getElem_cons_zero, Act.put, List.setIfInBounds_toArray, List.set_cons_zero, List.set_cons_succ])
    refine wpAnyH_take (i := 6) (v := ?_) rfl (by kernel_rfl) (by kernel_rfl) (by kernel_rfl) (fun _ _ _ h => h) (Or.inl ⟨by rfl, ?_⟩) (by assumption) ?_
    rotate_left
    · (intro w hSw; (try dsimp only at hSw); go_simp; (try with_reducible rfl))
    (try simp only [List.getElem_toArray, List.getElem_cons_succ, List.getElem_cons_zero, Act.put, List.setIfInBounds_toArray, List.set_cons_zero, List.set_cons_succ])
    refine wpAnyH_take (i := 7) (v := undef) rfl (by kernel_rfl) (by kernel_rfl) (by kernel_rfl) (fun _ _ _ h => h) (Or.inr ⟨by rfl, rfl⟩) (by assumption) ?_
    (try simp only [List.getElem_toArray, List.getElem_cons_succ, List.getElem_cons_zero, Act.put, List.setIfInBounds_toArray, List.set_cons_zero, List.set_cons_succ])
    refine wpAnyH_take (i := 8) (v := undef) rfl (by kernel_rfl) (by kernel_rfl) (by kernel_rfl) (fun _ _ _ h => h) (Or.inr ⟨by rfl, rfl⟩) (by assumption) ?_
    (try simp only [List.getElem_toArray, List.getElem_cons_succ, List.getElem_cons_zero, Act.put, List.setIfInBounds_toArray, List.set_cons_zero, List.set_cons_succ])
    refine wpAnyH_take (i := 9) (v := undef) rfl (by kernel_rfl) (by kernel_rfl) (by kernel_rfl) (fun _ _ _ h => h) (Or.inr ⟨by rfl, rfl⟩) (by assumption) ?_
    (try simp only [List.getElem_toArray, List.getElem_cons_succ, List.getElem_cons_zero, Act.put, List.setIfInBounds_toArray, List.set_cons_zero, List.set_cons_succ])
    refine wpAnyH_take (i := 10) (v := ?_) rfl (by kernel_rfl) (by kernel_rfl) (by kernel_rfl) (fun _ _ _ h => h) (Or.inl ⟨by rfl, ?_⟩) (by assumption) ?_
    rotate_left
    · (intro w hSw; (try dsimp only at hSw); go_simp; (try with_reducible rfl))
    (try simp only [List.getElem_toArray, List.getElem_cons_succ, List.getElem_cons_zero, Act.put, List.setIfInBounds_toArray, List.set_cons_zero, List.set_cons_succ])
    refine wpAnyH_take (i := 11) (v := ?_) rfl (by kernel_rfl) (by kernel_rfl) (by kernel_rfl) (fun _ _ _ h => h) (Or.inl ⟨by rfl, ?_⟩) (by assumption) ?_
    rotate_left
    · (intro w hSw; (try dsimp only at hSw); go_simp; (try with_reducible rfl))
    (try simp only [List.getElem_toArray, List.getElem_cons_succ, List.getElem_cons_zero, Act.put, List.setIfInBounds_toArray, List.set_cons_zero, List.set_cons_succ])
    refine wpAnyH_done (by kernel_rfl) ?_ _
    refine NoPanic.normal ?_
    go_wp2_with fail
    go_returns
    exact ⟨rfl, H0⟩
  · skip
    go_enter Tryz.func11, Tryz.ntmps11
    go_wp2_with fail
    obtain ⟨W0, hW, b0, b1, hbW, hszW0⟩ := boxes2 w #[.bool s0, .slice A0 n0 c0, .bool s1, .slice A1 n1 c1, .bool s2, .slice A2 n2 c2] #[.bool s3, .slice A3 n3 c3, .bool s4, .slice A4 n4 c4, .bool s5, .slice A5 n5 c5] 30 30
    rw [hW]
    clear hW
    replace h0 := h0.below hbW
    replace h1 := h1.below hbW
    replace h2 := h2.below hbW
    replace h3 := h3.below hbW
    replace h4 := h4.below hbW
    replace h5 := h5.below hbW
    have H0 := hbW
    clear hbW
    have hD := drawn_below W0
    replace h0 := h0.below hD
    replace h1 := h1.below hD
    replace h2 := h2.below hD
    replace h3 := h3.below hD
    replace h4 := h4.below hD
    replace h5 := h5.below hD
    replace b0 := b0.below hD
    replace b1 := b1.below hD
    replace H0 := H0.trans (hD.mono H0.size)
    clear hD
    refine wp_region_noPanic ?_
    refine wp_region_held_drew (S := (fun V => V.cell? ⟨w.heap.size, 0, none⟩ = some (.bool s0) ∧ V.cell? ⟨w.heap.size, 1, none⟩ = some (.slice A0 n0 c0) ∧ V.cell? ⟨w.heap.size, 2, none⟩ = some (.bool s1) ∧ V.cell? ⟨w.heap.size, 3, none⟩ = some (.slice A1 n1 c1) ∧ V.cell? ⟨w.heap.size, 4, none⟩ = some (.bool s2) ∧ V.cell? ⟨w.heap.size, 5, none⟩ = some (.slice A2 n2 c2) ∧ V.cell? ⟨w.heap.size + 1, 0, none⟩ = some (.bool s3) ∧ V.cell? ⟨w.heap.size + 1, 1, none⟩ = some (.slice A3 n3 c3) ∧ V.cell? ⟨w.heap.size + 1, 2, none⟩ = some (.bool s4) ∧ V.cell? ⟨w.heap.size + 1, 3, none⟩ = some (.slice A4 n4 c4) ∧ V.cell? ⟨w.heap.size + 1, 4, none⟩ = some (.bool s5) ∧ V.cell? ⟨w.heap.size + 1, 5, none⟩ = some (.slice A5 n5 c5))) (by kernel_rfl) ⟨b0.cell 0 _ rfl, b0.cell 1 _ rfl, b0.cell 2 _ rfl, b0.cell 3 _ rfl, b0.cell 4 _ rfl, b0.cell 5 _ rfl, b1.cell 0 _ rfl, b1.cell 1 _ rfl, b1.cell 2 _ rfl, b1.cell 3 _ rfl, b1.cell 4 _ rfl, b1.cell 5 _ rfl⟩ (fun hHeld => ?_)
    generalize W0.drew = v1 at H0 hHeld h0 h1 h2 h3 h4 h5 b0 b1 ⊢
    refine wpAnyH_take (i := 0) (v := ?_) rfl (by kernel_rfl) (by kernel_rfl) (by kernel_rfl) (fun _ _ _ h => h) (Or.inl ⟨by rfl, ?_⟩) (by assumption) ?_
    rotate_left
    · (intro w hSw; (try dsimp only at hSw); go_simp; (try with_reducible rfl))
    (try simp only [List.getElem_toArray, List.getElem_cons_zero, Act.put, List.setIfInBounds_toArray, List.set_cons_zero, List.set_cons_succ])
    refine wpAnyH_take (i := 2) (v := ?_) rfl (by kernel_rfl) (by kernel_rfl) (by kernel_rfl) (fun _ _ _ h => h) (Or.inl ⟨by rfl, ?_⟩) (by assumption) ?_
    rotate_left
    · (intro w hSw; (try dsimp only at hSw); go_simp; (try with_reducible rfl))
    (try simp only [List.getElem_toArray, List.getElem_cons_succ, List.getElem_cons_zero, Act.put, List.setIfInBounds_toArray, List.set_cons_zero, List.set_cons_succ])
    refine wpAnyH_ready (rs := [1]) (by kernel_rfl) (by simp) (AllReadyH.cons (o := _) rfl (fun K hK => ?_) AllReadyH.nil)
    go_simp
    go_at_call 19
    refine (lcoef_v).mono ?_
    rintro e w2 ⟨rfl, hb⟩
    replace h0 := h0.below hb
    replace h1 := h1.below hb
    replace h2 := h2.below hb
    replace h3 := h3.below hb
    replace h4 := h4.below hb
    replace h5 := h5.below hb
    replace b0 := b0.below hb
    replace b1 := b1.below hb
    replace H0 := H0.trans (hb.mono H0.size)
    clear hb
    go_wp2_with fail
    refine hK.out _ _ ⟨b0.cell 0 _ rfl, b0.cell 1 _ rfl, b0.cell 2 _ rfl, b0.cell 3 _ rfl, b0.cell 4 _ rfl, b0.cell 5 _ rfl, b1.cell 0 _ rfl, b1.cell 1 _ rfl, b1.cell 2 _ rfl, b1.cell 3 _ rfl, b1.cell 4 _ rfl, b1.cell 5 _ rfl⟩ (fun hHeld => ?_)
    clear hK K
    (try simp only [List.getElem_toArray, List.getElem_cons_succ, List.getElem_cons_zero, Act.put, List.setIfInBounds_toArray, List.set_cons_zero, List.set_cons_succ])
    refine wpAnyH_ready (rs := [3]) (by kernel_rfl) (by simp) (AllReadyH.cons (o := _) rfl (fun K hK => ?_) AllReadyH.nil)
    go_simp
    go_at_call 19
    refine (lcoef_v).mono ?_
    rintro e w3 ⟨rfl, hb⟩
    replace h0 := h0.below hb
    replace h1 := h1.below hb
    replace h2 := h2.below hb
    replace h3 := h3.below hb
    replace h4 := h4.below hb
    replace h5 := h5.below hb
    replace b0 := b0.below hb
    replace b1 := b1.below hb
    replace H0 := H0.trans (hb.mono H0.size)
    clear hb
    go_wp2_with fail
    refine hK.out _ _ ⟨b0.cell 0 _ rfl, b0.cell 1 _ rfl, b0.cell 2 _ rfl, b0.cell 3 _ rfl, b0.cell 4 _ rfl, b0.cell 5 _ rfl, b1.cell 0 _ rfl, b1.cell 1 _ rfl, b1.cell 2 _ rfl, b1.cell 3 _ rfl, b1.cell 4 _ rfl, b1.cell 5 _ rfl⟩ (fun hHeld => ?_)
    clear hK K
    (try simp only [List.getElem_toArray, List.getElem_cons_succ, List.getElem_cons_zero, Act.put, List.setIfInBounds_toArray, List.set_cons_zero, List.set_cons_succ])
    refine wpAnyH_ready (rs := [4]) (by kernel_rfl) (by simp) (AllReadyH.cons (o := _) rfl (fun K hK => ?_) AllReadyH.nil)
    go_simp
    go_at_call 20
    refine (lcmp_v h0.ri h1.ri h2.ri h3.ri h4.ri h5.ri HK.out).mono ?_
    rintro e w4 ⟨rfl, hb⟩
    replace h0 := h0.below hb
    replace h1 := h1.below hb
    replace h2 := h2.below hb
    replace h3 := h3.below hb
    replace h4 := h4.below hb
    replace h5 := h5.below hb
    replace b0 := b0.below hb
    replace b1 := b1.below hb
    replace H0 := H0.trans (hb.mono H0.size)
    clear hb
    go_wp2_with fail
    refine hK.out _ _ ⟨b0.cell 0 _ rfl, b0.cell 1 _ rfl, b0.cell 2 _ rfl, b0.cell 3 _ rfl, b0.cell 4 _ rfl, b0.cell 5 _ rfl, b1.cell 0 _ rfl, b1.cell 1 _ rfl, b1.cell 2 _ rfl, b1.cell 3 _ rfl, b1.cell 4 _ rfl, b1.cell 5 _ rfl⟩ (fun hHeld => ?_)
    clear hK K
    (try simp only [List.getElem_toArray, List.getElem_cons_succ, List.getElem_cons_zero, Act.put, List.setIfInBounds_toArray, List.set_cons_zero, List.set_cons_succ])
    refine wpAnyH_take (i := 5) (v := ?_) rfl (by kernel_rfl) (by kernel_rfl) (by kernel_rfl) (fun _ _ _ h => h) (Or.inl ⟨by rfl, ?_⟩) (by assumption) ?_
    rotate_left
    · (intro w hSw; (try dsimp only at hSw); go_simp; (try with_reducible rfl))
    (try simp only [List.getElem_toArray, List.getElem_cons_succ, List.getElem_cons_zero, Act.put, List.setIfInBounds_toArray, List.set_cons_zero, List.set_cons_succ])
    refine wpAnyH_take (i := 6) (v := ?_) rfl (by kernel_rfl) (by kernel_rfl) (by kernel_rfl) (fun _ _ _ h => h) (Or.inl ⟨by rfl, ?_⟩) (by assumption) ?_
    rotate_left
    · (intro w hSw; (try dsimp only at hSw); go_simp; (try with_reducible rfl))
    (try simp only [List.getElem_toArray, List.getElem_cons_succ, List.getElem_cons_zero, Act.put, List.setIfInBounds_toArray, List.set_cons_zero, List.set_cons_succ])
    refine wpAnyH_take (i := 7) (v := ?_) rfl (by kernel_rfl) (by kernel_rfl) (by kernel_rfl) (fun _ _ _ h => h) (Or.inl ⟨by rfl, ?_⟩) (by assumption) ?_
    rotate_left
    · (intro w hSw; (try dsimp only at hSw); go_simp; (try with_reducible rfl))
    (try simp only [List.getElem_toArray, List.getElem_cons_succ, List.getElem_cons_zero, Act.put, List.setIfInBounds_toArray, List.set_cons_zero, List.set_cons_succ])
    refine wpAnyH_take (i := 8) (v := ?_) rfl (by kernel_rfl) (by kernel_rfl) (by kernel_rfl) (fun _ _ _ h => h) (Or.inl ⟨by rfl, ?_⟩) (by assumption) ?_
    rotate_left
    · (intro w hSw; (try dsimp only at hSw); go_simp; (try with_reducible rfl))
    (try simp only [List.getElem_toArray, List.getElem_cons_succ, List.getElem_cons_zero, Act.put, List.setIfInBounds_toArray, List.set_cons_zero, List.set_cons_succ])
    refine wpAnyH_ready (rs := [9]) (by kernel_rfl) (by simp) (AllReadyH.cons (o := _) rfl (fun K hK => ?_) AllReadyH.nil)
    go_simp
    go_at_call 18
    refine (lboth_v h0 h1 h2 V0.out h3 h4 h5 V1.out (by omega)).mono ?_
    rintro e w5 ⟨rfl, hb⟩
    replace h0 := h0.below hb
    replace h1 := h1.below hb
    replace h2 := h2.below hb
    replace h3 := h3.below hb
    replace h4 := h4.below hb
    replace h5 := h5.below hb
    replace b0 := b0.below hb
    replace b1 := b1.below hb
    replace H0 := H0.trans (hb.mono H0.size)
    clear hb
    go_wp2_with fail
    refine hK.out _ _ ⟨b0.cell 0 _ rfl, b0.cell 1 _ rfl, b0.cell 2 _ rfl, b0.cell 3 _ rfl, b0.cell 4 _ rfl, b0.cell 5 _ rfl, b1.cell 0 _ rfl, b1.cell 1 _ rfl, b1.cell 2 _ rfl, b1.cell 3 _ rfl, b1.cell 4 _ rfl, b1.cell 5 _ rfl⟩ (fun hHeld => ?_)
    clear hK K
    (try simp only [List.getElem_toArray, List.getElem_cons_succ, List.getElem_cons_zero, Act.put, List.setIfInBounds_toArray, List.set_cons_zero, List.set_cons_succ])
    refine wpAnyH_take (i := 10) (v := ?_) rfl (by kernel_rfl) (by kernel_rfl) (by kernel_rfl) (fun _ _ _ h => h) (Or.inl ⟨by rfl, ?_⟩) (by assumption) ?_
    rotate_left
    · (intro w hSw; (try dsimp only at hSw); go_simp; (try with_reducible rfl))
    (try simp only [List.getElem_toArray, List.getElem_cons_succ, List.getElem_cons_zero, Act.put, List.setIfInBounds_toArray, List.set_cons_zero, List.set_cons_succ])
    refine wpAnyH_take (i := 11) (v := ?_) rfl (by kernel_rfl) (by kernel_rfl) (by kernel_rfl) (fun _ _ _ h => h) (Or.inl ⟨by rfl, ?_⟩) (by assumption) ?_
    rotate_left
    · (intro w hSw; (try dsimp only at hSw); go_simp; (try with_reducible rfl))
    (try simp only [List.getElem_toArray, List.getElem_cons_succ, List.getElem_cons_zero, Act.put, List.setIfInBounds_toArray, List.set_cons_zero, List.set_cons_succ])
    refine wpAnyH_done (by kernel_rfl) ?_ _
    refine NoPanic.normal ?_
    go_wp2_with fail
    go_returns
    exact ⟨rfl, H0⟩
set_option maxRecDepth 100000 in
set_option maxHeartbeats 4000000 in
theorem lcompare_v (h0 : NI w s0 (.slice A0 n0 c0) z0 L) (h1 : NI w s1 (.slice A1 n1 c1) z1 L) (h2 : NI w s2 (.slice A2 n2 c2) z2 L) (v0 : VL z0 z1 z2) (h3 : NI w s3 (.slice A3 n3 c3) z3 L) (h4 : NI w s4 (.slice A4 n4 c4) z4 L) (h5 : NI w s5 (.slice A5 n5 c5) z5 L) (v1 : VL z3 z4 z5) (hk : cmp3 z0 z1 z2 z3 z4 z5 = k) (hL : L ≤ 10000) :
    Calls Tryz.prog 7 #[.agg #[.bool s0, .slice A0 n0 c0, .bool s1, .slice A1 n1 c1, .bool s2, .slice A2 n2 c2], .agg #[.bool s3, .slice A3 n3 c3, .bool s4, .slice A4 n4 c4, .bool s5, .slice A5 n5 c5]] w fun e w' => e = .returned (.int .i64 k) ∧ Below w.heap.size w w' := by
  have V0 := Lib.hid v0
  clear v0
  have V1 := Lib.hid v1
  clear v1
  have HK := Lib.hid hk
  clear hk
  go_enter Tryz.func7, Tryz.ntmps7
  go_wp2_with fail
  obtain ⟨W0, hW, b0, b1, hbW, hszW0⟩ := boxes2 w #[.bool s0, .slice A0 n0 c0, .bool s1, .slice A1 n1 c1, .bool s2, .slice A2 n2 c2] #[.bool s3, .slice A3 n3 c3, .bool s4, .slice A4 n4 c4, .bool s5, .slice A5 n5 c5] 30 30
  rw [hW]
  clear hW
  replace h0 := h0.below hbW
  replace h1 := h1.below hbW
  replace h2 := h2.below hbW
  replace h3 := h3.below hbW
  replace h4 := h4.below hbW
  replace h5 := h5.below hbW
  have H0 := hbW
  clear hbW
  have cb00 := b0.cell 0 _ rfl
  have cb01 := b0.cell 1 _ rfl
  have cb02 := b0.cell 2 _ rfl
  have cb03 := b0.cell 3 _ rfl
  have cb04 := b0.cell 4 _ rfl
  have cb05 := b0.cell 5 _ rfl
  have cb10 := b1.cell 0 _ rfl
  have cb11 := b1.cell 1 _ rfl
  have cb12 := b1.cell 2 _ rfl
  have cb13 := b1.cell 3 _ rfl
  have cb14 := b1.cell 4 _ rfl
  have cb15 := b1.cell 5 _ rfl
  go_wp2_with fail
  clear cb00 cb01 cb02 cb03 cb04 cb05 cb10 cb11 cb12 cb13 cb14 cb15
  refine (lboth_v h0 h1 h2 V0.out h3 h4 h5 V1.out (by omega)).mono ?_
  rintro e w1 ⟨rfl, hb⟩
  replace h0 := h0.below hb
  replace h1 := h1.below hb
  replace h2 := h2.below hb
  replace h3 := h3.below hb
  replace h4 := h4.below hb
  replace h5 := h5.below hb
  replace b0 := b0.below hb
  replace b1 := b1.below hb
  replace H0 := H0.trans (hb.mono H0.size)
  clear hb
  have cb00 := b0.cell 0 _ rfl
  have cb01 := b0.cell 1 _ rfl
  have cb02 := b0.cell 2 _ rfl
  have cb03 := b0.cell 3 _ rfl
  have cb04 := b0.cell 4 _ rfl
  have cb05 := b0.cell 5 _ rfl
  have cb10 := b1.cell 0 _ rfl
  have cb11 := b1.cell 1 _ rfl
  have cb12 := b1.cell 2 _ rfl
  have cb13 := b1.cell 3 _ rfl
  have cb14 := b1.cell 4 _ rfl
  have cb15 := b1.cell 5 _ rfl
  go_wp2_with fail
  clear cb00 cb01 cb02 cb03 cb04 cb05 cb10 cb11 cb12 cb13 cb14 cb15
  have hD := drawn_below w1
  replace h0 := h0.below hD
  replace h1 := h1.below hD
  replace h2 := h2.below hD
  replace h3 := h3.below hD
  replace h4 := h4.below hD
  replace h5 := h5.below hD
  replace b0 := b0.below hD
  replace b1 := b1.below hD
  replace H0 := H0.trans (hD.mono H0.size)
  clear hD
  refine wp_region_noPanic ?_
  refine wp_region_held_drew (S := (fun V => V.cell? ⟨w.heap.size, 0, none⟩ = some (.bool s0) ∧ V.cell? ⟨w.heap.size, 1, none⟩ = some (.slice A0 n0 c0) ∧ V.cell? ⟨w.heap.size, 2, none⟩ = some (.bool s1) ∧ V.cell? ⟨w.heap.size, 3, none⟩ = some (.slice A1 n1 c1) ∧ V.cell? ⟨w.heap.size, 4, none⟩ = some (.bool s2) ∧ V.cell? ⟨w.heap.size, 5, none⟩ = some (.slice A2 n2 c2) ∧ V.cell? ⟨w.heap.size + 1, 0, none⟩ = some (.bool s3) ∧ V.cell? ⟨w.heap.size + 1, 1, none⟩ = some (.slice A3 n3 c3) ∧ V.cell? ⟨w.heap.size + 1, 2, none⟩ = some (.bool s4) ∧ V.cell? ⟨w.heap.size + 1, 3, none⟩ = some (.slice A4 n4 c4) ∧ V.cell? ⟨w.heap.size + 1, 4, none⟩ = some (.bool s5) ∧ V.cell? ⟨w.heap.size + 1, 5, none⟩ = some (.slice A5 n5 c5))) (by kernel_rfl) ⟨b0.cell 0 _ rfl, b0.cell 1 _ rfl, b0.cell 2 _ rfl, b0.cell 3 _ rfl, b0.cell 4 _ rfl, b0.cell 5 _ rfl, b1.cell 0 _ rfl, b1.cell 1 _ rfl, b1.cell 2 _ rfl, b1.cell 3 _ rfl, b1.cell 4 _ rfl, b1.cell 5 _ rfl⟩ (fun hHeld => ?_)
  generalize w1.drew = v2 at H0 hHeld h0 h1 h2 h3 h4 h5 b0 b1 ⊢
  refine wpAnyH_take (i := 0) (v := ?_) rfl (by kernel_rfl) (by kernel_rfl) (by kernel_rfl) (fun _ _ _ h => h) (Or.inl ⟨by rfl, ?_⟩) (by assumption) ?_
  rotate_left
  · (intro w hSw; (try dsimp only at hSw); go_simp; (try with_reducible rfl))
  (try simp only [List.getElem_toArray, List.getElem_cons_zero, Act.put, List.setIfInBounds_toArray, List.set_cons_zero, List.set_cons_succ])
  refine wpAnyH_take (i := 2) (v := ?_) rfl (by kernel_rfl) (by kernel_rfl) (by kernel_rfl) (fun _ _ _ h => h) (Or.inl ⟨by rfl, ?_⟩) (by assumption) ?_
  rotate_left
  · (intro w hSw; (try dsimp only at hSw); go_simp; (try with_reducible rfl))
  (try simp only [List.getElem_toArray, List.getElem_cons_succ, List.getElem_cons_zero, Act.put, List.setIfInBounds_toArray, List.set_cons_zero, List.set_cons_succ])
  refine wpAnyH_ready (rs := [1]) (by kernel_rfl) (by simp) (AllReadyH.cons (o := _) rfl (fun K hK => ?_) AllReadyH.nil)
  go_simp
  go_at_call 19
  refine (lcoef_v).mono ?_
  rintro e w3 ⟨rfl, hb⟩
  replace h0 := h0.below hb
  replace h1 := h1.below hb
  replace h2 := h2.below hb
  replace h3 := h3.below hb
  replace h4 := h4.below hb
  replace h5 := h5.below hb
  replace b0 := b0.below hb
  replace b1 := b1.below hb
  replace H0 := H0.trans (hb.mono H0.size)
  clear hb
  go_wp2_with fail
  refine hK.out _ _ ⟨b0.cell 0 _ rfl, b0.cell 1 _ rfl, b0.cell 2 _ rfl, b0.cell 3 _ rfl, b0.cell 4 _ rfl, b0.cell 5 _ rfl, b1.cell 0 _ rfl, b1.cell 1 _ rfl, b1.cell 2 _ rfl, b1.cell 3 _ rfl, b1.cell 4 _ rfl, b1.cell 5 _ rfl⟩ (fun hHeld => ?_)
  clear hK K
  (try simp only [List.getElem_toArray, List.getElem_cons_succ, List.getElem_cons_zero, Act.put, List.setIfInBounds_toArray, List.set_cons_zero, List.set_cons_succ])
  refine wpAnyH_ready (rs := [3]) (by kernel_rfl) (by simp) (AllReadyH.cons (o := _) rfl (fun K hK => ?_) AllReadyH.nil)
  go_simp
  go_at_call 19
  refine (lcoef_v).mono ?_
  rintro e w4 ⟨rfl, hb⟩
  replace h0 := h0.below hb
  replace h1 := h1.below hb
  replace h2 := h2.below hb
  replace h3 := h3.below hb
  replace h4 := h4.below hb
  replace h5 := h5.below hb
  replace b0 := b0.below hb
  replace b1 := b1.below hb
  replace H0 := H0.trans (hb.mono H0.size)
  clear hb
  go_wp2_with fail
  refine hK.out _ _ ⟨b0.cell 0 _ rfl, b0.cell 1 _ rfl, b0.cell 2 _ rfl, b0.cell 3 _ rfl, b0.cell 4 _ rfl, b0.cell 5 _ rfl, b1.cell 0 _ rfl, b1.cell 1 _ rfl, b1.cell 2 _ rfl, b1.cell 3 _ rfl, b1.cell 4 _ rfl, b1.cell 5 _ rfl⟩ (fun hHeld => ?_)
  clear hK K
  (try simp only [List.getElem_toArray, List.getElem_cons_succ, List.getElem_cons_zero, Act.put, List.setIfInBounds_toArray, List.set_cons_zero, List.set_cons_succ])
  refine wpAnyH_ready (rs := [4]) (by kernel_rfl) (by simp) (AllReadyH.cons (o := _) rfl (fun K hK => ?_) AllReadyH.nil)
  go_simp
  go_at_call 20
  refine (lcmp_v h0.ri h1.ri h2.ri h3.ri h4.ri h5.ri HK.out).mono ?_
  rintro e w5 ⟨rfl, hb⟩
  replace h0 := h0.below hb
  replace h1 := h1.below hb
  replace h2 := h2.below hb
  replace h3 := h3.below hb
  replace h4 := h4.below hb
  replace h5 := h5.below hb
  replace b0 := b0.below hb
  replace b1 := b1.below hb
  replace H0 := H0.trans (hb.mono H0.size)
  clear hb
  go_wp2_with fail
  refine hK.out _ _ ⟨b0.cell 0 _ rfl, b0.cell 1 _ rfl, b0.cell 2 _ rfl, b0.cell 3 _ rfl, b0.cell 4 _ rfl, b0.cell 5 _ rfl, b1.cell 0 _ rfl, b1.cell 1 _ rfl, b1.cell 2 _ rfl, b1.cell 3 _ rfl, b1.cell 4 _ rfl, b1.cell 5 _ rfl⟩ (fun hHeld => ?_)
  clear hK K
  (try simp only [List.getElem_toArray, List.getElem_cons_succ, List.getElem_cons_zero, Act.put, List.setIfInBounds_toArray, List.set_cons_zero, List.set_cons_succ])
  refine wpAnyH_take (i := 5) (v := ?_) rfl (by kernel_rfl) (by kernel_rfl) (by kernel_rfl) (fun _ _ _ h => h) (Or.inl ⟨by rfl, ?_⟩) (by assumption) ?_
  rotate_left
  · (intro w hSw; (try dsimp only at hSw); go_simp; (try with_reducible rfl))
  (try simp only [List.getElem_toArray, List.getElem_cons_succ, List.getElem_cons_zero, Act.put, List.setIfInBounds_toArray, List.set_cons_zero, List.set_cons_succ])
  refine wpAnyH_done (by kernel_rfl) ?_ _
  refine NoPanic.normal ?_
  go_wp2_with fail
  go_returns
  exact ⟨rfl, H0⟩
end
end Go.Proofs.YtfonldogbfkpiaaGreat
