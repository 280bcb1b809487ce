/-
  The walk of the law LineMeets.
-/
import Derived.Deep.Cut
import Derived.Test.YtancgkmkbgkncaaGreatQLnT
import Derived.Test.YtancgkmkbgkncaaGreatQLnK
import Derived.Test.YtancgkmkbgkncaaGreatQLnZ
namespace Go.Proofs.YtancgkmkbgkncaaGreat
open Go.RowKit

section
variable {A0 A1 A2 A3 A4 A5 A6 A7 A8 A9 A10 A11 A12 A13 A14 A15 A16 A17 A18 A19 A20 A21 A22 A23 D0 D1 D2 D3 D4 D5 D6 D7 D8 D9 D10 D11 D12 D13 D14 D15 D16 D17 D18 D19 D20 D21 D22 D23 : Option Addr} {n0 n1 n2 n3 n4 n5 n6 n7 n8 n9 n10 n11 n12 n13 n14 n15 n16 n17 n18 n19 n20 n21 n22 n23 c0 c1 c2 c3 c4 c5 c6 c7 c8 c9 c10 c11 c12 c13 c14 c15 c16 c17 c18 c19 c20 c21 c22 c23 m0 m1 m2 m3 m4 m5 m6 m7 m8 m9 m10 m11 m12 m13 m14 m15 m16 m17 m18 m19 m20 m21 m22 m23 e0 e1 e2 e3 e4 e5 e6 e7 e8 e9 e10 e11 e12 e13 e14 e15 e16 e17 e18 e19 e20 e21 e22 e23 : Nat} {s0 s1 s2 s3 s4 s5 s6 s7 s8 s9 s10 s11 s12 s13 s14 s15 s16 s17 s18 s19 s20 s21 s22 s23 : Bool} {q0 q1 q2 q3 q4 q5 q6 q7 : Rat} {z0 z1 z2 z3 z4 z5 z6 z7 z8 z9 z10 z11 : Int} {L L0 L1 x y : Nat} {k : Int} {b : Bool} {w : World}
theorem det_rev (z0 z1 z3 z4 : Int) : z3 * -z1 - z4 * -z0 = z0 * z4 - z1 * z3 := by grind
theorem det_rev0 {z0 z1 z3 z4 : Int} (h : z0 * z4 - z1 * z3 = 0) : z3 * -z1 - z4 * -z0 = 0 := (det_rev z0 z1 z3 z4).trans h
theorem det_revn {z0 z1 z3 z4 : Int} (h : z0 * z4 - z1 * z3 ≠ 0) : z3 * -z1 - z4 * -z0 ≠ 0 := by rw [det_rev]; exact h
theorem gcd3_neg (a b c : Int) : gcd3 (-a) (-b) (-c) = gcd3 a b c := by unfold gcd3; rw [Int.natAbs_neg, Int.natAbs_neg, Int.natAbs_neg]
theorem vl_neg {a b c : Int} (h : VL a b c) : VL (-a) (-b) (-c) := ⟨fun h0 => h.1 ⟨by omega, by omega⟩, by rw [gcd3_neg]; exact h.2⟩
theorem on_line {a b c : Rat} {X Y D : Rat} (hD : D ≠ 0) (h : a * X + b * Y + c * D = 0) : rsg (a * (X / D) + b * (Y / D) + c) = 0 := by
  have e : a * (X / D) + b * (Y / D) + c = (a * X + b * Y + c * D) / D := by grind
  rw [e, h, rsg_zero_iff]; grind
theorem meet_on1 (z0 z1 z2 z3 z4 z5 : Int) (h : z0 * z4 - z1 * z3 ≠ 0) : rsg ((z0 : Rat) * (((z1 * z5 - z2 * z4 : Int) : Rat) / ((z0 * z4 - z1 * z3 : Int) : Rat)) + (z1 : Rat) * (((z2 * z3 - z0 * z5 : Int) : Rat) / ((z0 * z4 - z1 * z3 : Int) : Rat)) + (z2 : Rat)) = 0 :=
  on_line (int_ne h) (by simp only [Rat.intCast_sub, Rat.intCast_mul]; grind)
theorem meet_on2 (z0 z1 z2 z3 z4 z5 : Int) (h : z0 * z4 - z1 * z3 ≠ 0) : rsg ((z3 : Rat) * (((z1 * z5 - z2 * z4 : Int) : Rat) / ((z0 * z4 - z1 * z3 : Int) : Rat)) + (z4 : Rat) * (((z2 * z3 - z0 * z5 : Int) : Rat) / ((z0 * z4 - z1 * z3 : Int) : Rat)) + (z5 : Rat)) = 0 :=
  on_line (int_ne h) (by simp only [Rat.intCast_sub, Rat.intCast_mul]; grind)
set_option maxRecDepth 100000 in
set_option maxHeartbeats 16000000 in
theorem linemeets_any {v : Value} (HI : Ints w v) :
    Calls Tryz.prog 7 #[v] w fun e w' => e = .returned (.bool true) ∧ Below w.heap.size w w' := by
  go_enter Tryz.func7, Tryz.ntmps7
  go_wp2_with fail
  refine (new_any HI).mono ?_
  rintro e w1 ⟨rfl, hT, H0, hsz⟩
  have hlt : w.heap.size < w1.heap.size := by omega
  clear hsz HI
  go_wp2_with fail
  refine (tl_v hT hlt).mono ?_
  rintro e w2 ⟨z0, z1, z2, s21, A21, n21, c21, s22, A22, n22, c22, s23, A23, n23, c23, rfl, hsl7, g21, g22, g23, hT', hg⟩
  replace hlt := Nat.lt_of_lt_of_le hlt hg.size
  replace H0 := H0.grown hg H0.size (by rintro k hk; injection hk with hk; omega)
  clear hT
  have hT := hT'
  clear hT' hg
  go_wp2_with fail
  refine (gtol_v g21 g22 g23 (by decide)).mono ?_
  rintro e w3 ⟨s18, A18, n18, c18, s19, A19, n19, c19, s20, A20, n20, c20, rfl, g18, g19, g20, hb⟩
  replace g21 := g21.below hb
  replace g22 := g22.below hb
  replace g23 := g23.below hb
  replace hT := hT.keep hb hlt
  replace hlt := Nat.lt_of_lt_of_le hlt hb.size
  replace H0 := H0.trans (hb.mono H0.size)
  clear hb
  go_wp2_with fail
  have V0 := Lib.hid hsl7.1
  clear hsl7
  clear g21
  clear g22
  clear g23
  refine (tl_v hT hlt).mono ?_
  rintro e w4 ⟨z3, z4, z5, s21, A21, n21, c21, s22, A22, n22, c22, s23, A23, n23, c23, rfl, hsl7, g21, g22, g23, hT', hg⟩
  replace g18 := g18.tape hT hg
  replace g19 := g19.tape hT hg
  replace g20 := g20.tape hT hg
  replace hlt := Nat.lt_of_lt_of_le hlt hg.size
  replace H0 := H0.grown hg H0.size (by rintro k hk; injection hk with hk; omega)
  clear hT
  have hT := hT'
  clear hT' hg
  go_wp2_with fail
  refine (gtol_v g21 g22 g23 (by decide)).mono ?_
  rintro e w5 ⟨s15, A15, n15, c15, s16, A16, n16, c16, s17, A17, n17, c17, rfl, g15, g16, g17, hb⟩
  replace g18 := g18.below hb
  replace g19 := g19.below hb
  replace g20 := g20.below hb
  replace g21 := g21.below hb
  replace g22 := g22.below hb
  replace g23 := g23.below hb
  replace hT := hT.keep hb hlt
  replace hlt := Nat.lt_of_lt_of_le hlt hb.size
  replace H0 := H0.trans (hb.mono H0.size)
  clear hb
  have V1 := Lib.hid hsl7.1
  clear hsl7
  clear g21
  clear g22
  clear g23
  clear hT hlt
  obtain ⟨W6, hW, b4, b5, hbW, hszW6⟩ := boxes2 w5 #[.bool s18, .slice A18 n18 c18, .bool s19, .slice A19 n19 c19, .bool s20, .slice A20 n20 c20] #[.bool s15, .slice A15 n15 c15, .bool s16, .slice A16 n16 c16, .bool s17, .slice A17 n17 c17] 30 30
  skip
  skip
  replace g18 := g18.below hbW
  replace g19 := g19.below hbW
  replace g20 := g20.below hbW
  replace g15 := g15.below hbW
  replace g16 := g16.below hbW
  replace g17 := g17.below hbW
  replace H0 := H0.trans (hbW.mono H0.size)
  clear hbW
  have cb40 := b4.cell 0 _ rfl
  have cb41 := b4.cell 1 _ rfl
  have cb42 := b4.cell 2 _ rfl
  have cb43 := b4.cell 3 _ rfl
  have cb44 := b4.cell 4 _ rfl
  have cb45 := b4.cell 5 _ rfl
  have cb50 := b5.cell 0 _ rfl
  have cb51 := b5.cell 1 _ rfl
  have cb52 := b5.cell 2 _ rfl
  have cb53 := b5.cell 3 _ rfl
  have cb54 := b5.cell 4 _ rfl
  have cb55 := b5.cell 5 _ rfl
  go_wp2_with fail
  clear hW
  clear cb40 cb41 cb42 cb43 cb44 cb45 cb50 cb51 cb52 cb53 cb54 cb55
  by_cases hd : z0 * z4 - z1 * z3 = 0
  · have HD := Lib.hid hd
    have HD2 := Lib.hid (det_rev0 hd)
    clear hd
    have V2 := Lib.hid (vl_neg V0.out)
    refine (lmeet_zo g18 g19 g20 V0.out g15 g16 g17 V1.out HD.out (by decide)).mono ?_
    rintro e w7 ⟨s12, A12, n12, c12, D12, m12, e12, s13, A13, n13, c13, D13, m13, e13, rfl, _, _, hb⟩
    replace g18 := g18.below hb
    replace g19 := g19.below hb
    replace g20 := g20.below hb
    replace g15 := g15.below hb
    replace g16 := g16.below hb
    replace g17 := g17.below hb
    replace b4 := b4.below hb
    replace b5 := b5.below hb
    replace H0 := H0.trans (hb.mono H0.size)
    clear hb
    have lb4_8 := b4.lt
    have lb5_8 := b5.lt
    obtain ⟨W8, hW, b6, hbW, hszW8⟩ := boxes1 w7 #[.bool s12, .slice A12 n12 c12, .slice D12 m12 e12, .bool s13, .slice A13 n13 c13, .slice D13 m13 e13] 54
    skip
    skip
    replace g18 := g18.below hbW
    replace g19 := g19.below hbW
    replace g20 := g20.below hbW
    replace g15 := g15.below hbW
    replace g16 := g16.below hbW
    replace g17 := g17.below hbW
    replace b4 := b4.below hbW
    replace b5 := b5.below hbW
    replace H0 := H0.trans (hbW.mono H0.size)
    clear hbW
    have cb40 := b4.cell 0 _ rfl
    have cb41 := b4.cell 1 _ rfl
    have cb42 := b4.cell 2 _ rfl
    have cb43 := b4.cell 3 _ rfl
    have cb44 := b4.cell 4 _ rfl
    have cb45 := b4.cell 5 _ rfl
    have cb50 := b5.cell 0 _ rfl
    have cb51 := b5.cell 1 _ rfl
    have cb52 := b5.cell 2 _ rfl
    have cb53 := b5.cell 3 _ rfl
    have cb54 := b5.cell 4 _ rfl
    have cb55 := b5.cell 5 _ rfl
    go_wp2_with fail
    clear hW
    clear cb40 cb41 cb42 cb43 cb44 cb45 cb50 cb51 cb52 cb53 cb54 cb55
    have lcb4_9 := b4.lt
    have lcb5_9 := b5.lt
    have lcb6_9 := b6.lt
    go_cut [8, 9] from 9 (fun u9_0 _x0 wx => ∃ g9_0 s10 A10 n10 c10 D10 m10 e10 s11 A11 n11 c11 D11 m11 e11, u9_0 = .pointer (some ⟨g9_0, 0, none⟩) ∧ _x0 = .bool false ∧ Box wx g9_0 #[.bool s10, .slice A10 n10 c10, .slice D10 m10 e10, .bool s11, .slice A11 n11 c11, .slice D11 m11 e11] 54 ∧ W8.heap.size ≤ g9_0 ∧ Below W8.heap.size W8 wx)
    case first =>
      have hG := drawn_below W8
      refine wp_region_noPanic ?_
      refine wp_region_held_drew (S := (fun V => V.cell? ⟨w5.heap.size, 0, none⟩ = some (.bool s18) ∧ V.cell? ⟨w5.heap.size, 1, none⟩ = some (.slice A18 n18 c18) ∧ V.cell? ⟨w5.heap.size, 2, none⟩ = some (.bool s19) ∧ V.cell? ⟨w5.heap.size, 3, none⟩ = some (.slice A19 n19 c19) ∧ V.cell? ⟨w5.heap.size, 4, none⟩ = some (.bool s20) ∧ V.cell? ⟨w5.heap.size, 5, none⟩ = some (.slice A20 n20 c20) ∧ V.cell? ⟨w5.heap.size + 1, 0, none⟩ = some (.bool s15) ∧ V.cell? ⟨w5.heap.size + 1, 1, none⟩ = some (.slice A15 n15 c15) ∧ V.cell? ⟨w5.heap.size + 1, 2, none⟩ = some (.bool s16) ∧ V.cell? ⟨w5.heap.size + 1, 3, none⟩ = some (.slice A16 n16 c16) ∧ V.cell? ⟨w5.heap.size + 1, 4, none⟩ = some (.bool s17) ∧ V.cell? ⟨w5.heap.size + 1, 5, none⟩ = some (.slice A17 n17 c17))) (by kernel_rfl) ⟨(b4.below hG).cell 0 _ rfl, (b4.below hG).cell 1 _ rfl, (b4.below hG).cell 2 _ rfl, (b4.below hG).cell 3 _ rfl, (b4.below hG).cell 4 _ rfl, (b4.below hG).cell 5 _ rfl, (b5.below hG).cell 0 _ rfl, (b5.below hG).cell 1 _ rfl, (b5.below hG).cell 2 _ rfl, (b5.below hG).cell 3 _ rfl, (b5.below hG).cell 4 _ rfl, (b5.below hG).cell 5 _ rfl⟩ (fun hHeld => ?_)
      generalize W8.drew = v9 at hG hHeld ⊢
      have sG := hG.size
      refine wpAnyH_take (i := 0) (v := ?_) rfl (by kernel_rfl) (by kernel_rfl) (by kernel_rfl) (fun _ _ _ h => h) (Or.inl ⟨by rfl, ?_⟩) (by assumption) ?_
      rotate_left
      · (intro w hSw; (try dsimp only at hSw); go_simp; (try with_reducible rfl))
      (try simp only [List.getElem_toArray, List.getElem_cons_zero, Act.put, List.setIfInBounds_toArray, List.set_cons_zero, List.set_cons_succ])
      refine wpAnyH_take (i := 1) (v := ?_) rfl (by kernel_rfl) (by kernel_rfl) (by kernel_rfl) (fun _ _ _ h => h) (Or.inl ⟨by rfl, ?_⟩) (by assumption) ?_
      rotate_left
      · (intro w hSw; (try dsimp only at hSw); go_simp; (try with_reducible rfl))
      (try simp only [List.getElem_toArray, List.getElem_cons_succ, List.getElem_cons_zero, Act.put, List.setIfInBounds_toArray, List.set_cons_zero, List.set_cons_succ])
      refine wpAnyH_ready (rs := [2, 7]) (by kernel_rfl) (by simp) (AllReadyH.cons (o := _) rfl (fun K hK => ?_) (AllReadyH.cons (o := _) rfl (fun K hK => ?_) AllReadyH.nil))
      · go_simp
        go_at_call 54
        refine (lreverse_v (g18.below hG) (g19.below hG) (g20.below hG) V0.out (by decide)).mono ?_
        rintro e y9_1 ⟨s0, A0, n0, c0, s1, A1, n1, c1, s2, A2, n2, c2, rfl, m0, m1, m2, hb9⟩
        have szy9_1 := hb9.size
        replace hG := hG.trans (hb9.mono sG)
        replace sG := hG.size
        clear hb9
        go_wp2_with fail
        refine hK.out _ _ ⟨(b4.below hG).cell 0 _ rfl, (b4.below hG).cell 1 _ rfl, (b4.below hG).cell 2 _ rfl, (b4.below hG).cell 3 _ rfl, (b4.below hG).cell 4 _ rfl, (b4.below hG).cell 5 _ rfl, (b5.below hG).cell 0 _ rfl, (b5.below hG).cell 1 _ rfl, (b5.below hG).cell 2 _ rfl, (b5.below hG).cell 3 _ rfl, (b5.below hG).cell 4 _ rfl, (b5.below hG).cell 5 _ rfl⟩ (fun hHeld => ?_)
        clear hK K
        (try simp only [List.getElem_toArray, List.getElem_cons_succ, List.getElem_cons_zero, Act.put, List.setIfInBounds_toArray, List.set_cons_zero, List.set_cons_succ])
        refine wpAnyH_ready (rs := [3, 7]) (by kernel_rfl) (by simp) (AllReadyH.cons (o := _) rfl (fun K hK => ?_) (AllReadyH.cons (o := _) rfl (fun K hK => ?_) AllReadyH.nil))
        · go_simp
          go_at_call 41
          refine (lmeet_zo (g15.below hG) (g16.below hG) (g17.below hG) V1.out m0 m1 m2 V2.out HD2.out (by decide)).mono ?_
          rintro e y9_2 ⟨s10, A10, n10, c10, D10, m10, e10, s11, A11, n11, c11, D11, m11, e11, rfl, k2, k3, hb9⟩
          have szy9_2 := hb9.size
          replace m0 := m0.below hb9
          replace m1 := m1.below hb9
          replace m2 := m2.below hb9
          replace hG := hG.trans (hb9.mono sG)
          replace sG := hG.size
          clear hb9
          clear m0
          clear m1
          clear m2
          go_wp2_with fail
          refine hK.out _ _ ⟨(b4.below hG).cell 0 _ rfl, (b4.below hG).cell 1 _ rfl, (b4.below hG).cell 2 _ rfl, (b4.below hG).cell 3 _ rfl, (b4.below hG).cell 4 _ rfl, (b4.below hG).cell 5 _ rfl, (b5.below hG).cell 0 _ rfl, (b5.below hG).cell 1 _ rfl, (b5.below hG).cell 2 _ rfl, (b5.below hG).cell 3 _ rfl, (b5.below hG).cell 4 _ rfl, (b5.below hG).cell 5 _ rfl⟩ (fun hHeld => ?_)
          clear hK K
          (try simp only [List.getElem_toArray, List.getElem_cons_succ, List.getElem_cons_zero, Act.put, List.setIfInBounds_toArray, List.set_cons_zero, List.set_cons_succ])
          refine wpAnyH_take (i := 4) (v := ?_) rfl (by kernel_rfl) (by kernel_rfl) (by kernel_rfl) (fun _ _ _ h => h) (Or.inl ⟨by rfl, ?_⟩) (by assumption) ?_
          rotate_left
          · (intro w hSw; (try dsimp only at hSw); go_simp; (try with_reducible rfl))
          (try simp only [List.getElem_toArray, List.getElem_cons_succ, List.getElem_cons_zero, Act.put, List.setIfInBounds_toArray, List.set_cons_zero, List.set_cons_succ])
          refine wpAnyH_take (i := 5) (v := ?_) rfl (by kernel_rfl) (by kernel_rfl) (by kernel_rfl) (fun _ _ _ h => h) (Or.inl ⟨by rfl, ?_⟩) (by assumption) ?_
          rotate_left
          · (intro w hSw; (try dsimp only at hSw); go_simp; (try with_reducible rfl))
          (try simp only [List.getElem_toArray, List.getElem_cons_succ, List.getElem_cons_zero, Act.put, List.setIfInBounds_toArray, List.set_cons_zero, List.set_cons_succ])
          refine wpAnyH_take (i := 6) (v := ?_) rfl (by kernel_rfl) (by kernel_rfl) (by kernel_rfl) (fun _ _ _ h => h) (Or.inl ⟨by rfl, ?_⟩) (by assumption) ?_
          rotate_left
          · (intro w hSw; (try dsimp only at hSw); go_simp; (try with_reducible rfl))
          (try simp only [List.getElem_toArray, List.getElem_cons_succ, List.getElem_cons_zero, Act.put, List.setIfInBounds_toArray, List.set_cons_zero, List.set_cons_succ])
          refine wpAnyH_ready (rs := [7]) (by kernel_rfl) (by simp) (AllReadyH.cons (o := _) rfl (fun K hK => ?_) AllReadyH.nil)
          go_simp
          obtain ⟨y9_3, hV, b8, hb9, szy9_3⟩ := boxes1 y9_2 #[.bool false, .slice none 0 0, .slice none 0 0, .bool false, .slice none 0 0, .slice none 0 0] 54
          rw [hV]
          clear hV
          have gly9_3 : W8.heap.size ≤ y9_2.heap.size := sG
          replace szy9_3 : y9_2.heap.size < y9_3.heap.size := by omega
          replace k2 := k2.below hb9
          replace k3 := k3.below hb9
          replace hG := hG.trans (hb9.mono sG)
          replace sG := hG.size
          clear hb9
          refine hK.out _ _ ⟨(b4.below hG).cell 0 _ rfl, (b4.below hG).cell 1 _ rfl, (b4.below hG).cell 2 _ rfl, (b4.below hG).cell 3 _ rfl, (b4.below hG).cell 4 _ rfl, (b4.below hG).cell 5 _ rfl, (b5.below hG).cell 0 _ rfl, (b5.below hG).cell 1 _ rfl, (b5.below hG).cell 2 _ rfl, (b5.below hG).cell 3 _ rfl, (b5.below hG).cell 4 _ rfl, (b5.below hG).cell 5 _ rfl⟩ (fun hHeld => ?_)
          clear hK K
          (try simp only [List.getElem_toArray, List.getElem_cons_succ, List.getElem_cons_zero, Act.put, List.setIfInBounds_toArray, List.set_cons_zero, List.set_cons_succ])
          have rb80 := b8.cell 0 _ rfl
          have qb80 := b8.frozen 0
          have rb81 := b8.cell 1 _ rfl
          have qb81 := b8.frozen 1
          have rb82 := b8.cell 2 _ rfl
          have qb82 := b8.frozen 2
          have rb83 := b8.cell 3 _ rfl
          have qb83 := b8.frozen 3
          have rb84 := b8.cell 4 _ rfl
          have qb84 := b8.frozen 4
          have rb85 := b8.cell 5 _ rfl
          have qb85 := b8.frozen 5
          refine wpAnyH_ready (rs := [8]) (by kernel_rfl) (by simp) (AllReadyH.cons (o := _) rfl (fun K hK => ?_) AllReadyH.nil)
          go_simp
          clear rb80 qb80
          clear rb81 qb81
          clear rb82 qb82
          clear rb83 qb83
          clear rb84 qb84
          clear rb85 qb85
          have hg := only_store6 y9_3 (y9_2.heap.size) (.bool s10) (.slice A10 n10 c10) (.slice D10 m10 e10) (.bool s11) (.slice A11 n11 c11) (.slice D11 m11 e11)
          have hB := b8.stored6 (.bool s10) (.slice A10 n10 c10) (.slice D10 m10 e10) (.bool s11) (.slice A11 n11 c11) (.slice D11 m11 e11)
          generalize hX : ((((((y9_3.setCell ⟨y9_2.heap.size, 0, none⟩ (.bool s10)).setCell ⟨y9_2.heap.size, 1, none⟩ (.slice A10 n10 c10)).setCell ⟨y9_2.heap.size, 2, none⟩ (.slice D10 m10 e10)).setCell ⟨y9_2.heap.size, 3, none⟩ (.bool s11)).setCell ⟨y9_2.heap.size, 4, none⟩ (.slice A11 n11 c11)).setCell ⟨y9_2.heap.size, 5, none⟩ (.slice D11 m11 e11)) = Y9_4 at hg hB ⊢
          clear hX
          replace k2 := k2.kept b8 (by simp [notInt]) hg
          replace k3 := k3.kept b8 (by simp [notInt]) hg
          replace b8 := hB
          replace hG := below_only hG hg (by omega) sG
          replace sG := hG.size
          clear hg hB
          refine hK.out _ _ ⟨(b4.below hG).cell 0 _ rfl, (b4.below hG).cell 1 _ rfl, (b4.below hG).cell 2 _ rfl, (b4.below hG).cell 3 _ rfl, (b4.below hG).cell 4 _ rfl, (b4.below hG).cell 5 _ rfl, (b5.below hG).cell 0 _ rfl, (b5.below hG).cell 1 _ rfl, (b5.below hG).cell 2 _ rfl, (b5.below hG).cell 3 _ rfl, (b5.below hG).cell 4 _ rfl, (b5.below hG).cell 5 _ rfl⟩ (fun hHeld => ?_)
          clear hK K
          (try simp only [List.getElem_toArray, List.getElem_cons_succ, List.getElem_cons_zero, Act.put, List.setIfInBounds_toArray, List.set_cons_zero, List.set_cons_succ])
          refine wpAnyH_take (i := 9) (v := ?_) rfl (by kernel_rfl) (by kernel_rfl) (by kernel_rfl) (fun _ _ _ h => h) (Or.inl ⟨by rfl, ?_⟩) (by assumption) ?_
          rotate_left
          · (intro w hSw; (try dsimp only at hSw); go_simp; (try with_reducible rfl))
          (try simp only [List.getElem_toArray, List.getElem_cons_succ, List.getElem_cons_zero, Act.put, List.setIfInBounds_toArray, List.set_cons_zero, List.set_cons_succ])
          refine wpAnyH_done (by kernel_rfl) ?_ _
          refine NoPanic.normal ?_
          go_wp2_with fail
          go_meet
          exact ⟨y9_2.heap.size, s10, A10, n10, c10, D10, m10, e10, s11, A11, n11, c11, D11, m11, e11, rfl, rfl, b8, (by omega), hG⟩
        · go_simp
          obtain ⟨y9_5, hV, b8, hb9, szy9_5⟩ := boxes1 y9_1 #[.bool false, .slice none 0 0, .slice none 0 0, .bool false, .slice none 0 0, .slice none 0 0] 54
          rw [hV]
          clear hV
          have gly9_5 : W8.heap.size ≤ y9_1.heap.size := sG
          replace szy9_5 : y9_1.heap.size < y9_5.heap.size := by omega
          replace m0 := m0.below hb9
          replace m1 := m1.below hb9
          replace m2 := m2.below hb9
          replace hG := hG.trans (hb9.mono sG)
          replace sG := hG.size
          clear hb9
          refine hK.out _ _ ⟨(b4.below hG).cell 0 _ rfl, (b4.below hG).cell 1 _ rfl, (b4.below hG).cell 2 _ rfl, (b4.below hG).cell 3 _ rfl, (b4.below hG).cell 4 _ rfl, (b4.below hG).cell 5 _ rfl, (b5.below hG).cell 0 _ rfl, (b5.below hG).cell 1 _ rfl, (b5.below hG).cell 2 _ rfl, (b5.below hG).cell 3 _ rfl, (b5.below hG).cell 4 _ rfl, (b5.below hG).cell 5 _ rfl⟩ (fun hHeld => ?_)
          clear hK K
          (try simp only [List.getElem_toArray, List.getElem_cons_succ, List.getElem_cons_zero, Act.put, List.setIfInBounds_toArray, List.set_cons_zero, List.set_cons_succ])
          refine wpAnyH_ready (rs := [3]) (by kernel_rfl) (by simp) (AllReadyH.cons (o := _) rfl (fun K hK => ?_) AllReadyH.nil)
          go_simp
          go_at_call 41
          refine (lmeet_zo (g15.below hG) (g16.below hG) (g17.below hG) V1.out m0 m1 m2 V2.out HD2.out (by decide)).mono ?_
          rintro e y9_6 ⟨s10, A10, n10, c10, D10, m10, e10, s11, A11, n11, c11, D11, m11, e11, rfl, k2, k3, hb9⟩
          have szy9_6 := hb9.size
          replace m0 := m0.below hb9
          replace m1 := m1.below hb9
          replace m2 := m2.below hb9
          replace b8 := b8.below hb9
          replace hG := hG.trans (hb9.mono sG)
          replace sG := hG.size
          clear hb9
          clear m0
          clear m1
          clear m2
          go_wp2_with fail
          refine hK.out _ _ ⟨(b4.below hG).cell 0 _ rfl, (b4.below hG).cell 1 _ rfl, (b4.below hG).cell 2 _ rfl, (b4.below hG).cell 3 _ rfl, (b4.below hG).cell 4 _ rfl, (b4.below hG).cell 5 _ rfl, (b5.below hG).cell 0 _ rfl, (b5.below hG).cell 1 _ rfl, (b5.below hG).cell 2 _ rfl, (b5.below hG).cell 3 _ rfl, (b5.below hG).cell 4 _ rfl, (b5.below hG).cell 5 _ rfl⟩ (fun hHeld => ?_)
          clear hK K
          (try simp only [List.getElem_toArray, List.getElem_cons_succ, List.getElem_cons_zero, Act.put, List.setIfInBounds_toArray, List.set_cons_zero, List.set_cons_succ])
          refine wpAnyH_take (i := 4) (v := ?_) rfl (by kernel_rfl) (by kernel_rfl) (by kernel_rfl) (fun _ _ _ h => h) (Or.inl ⟨by rfl, ?_⟩) (by assumption) ?_
          rotate_left
          · (intro w hSw; (try dsimp only at hSw); go_simp; (try with_reducible rfl))
          (try simp only [List.getElem_toArray, List.getElem_cons_succ, List.getElem_cons_zero, Act.put, List.setIfInBounds_toArray, List.set_cons_zero, List.set_cons_succ])
          refine wpAnyH_take (i := 5) (v := ?_) rfl (by kernel_rfl) (by kernel_rfl) (by kernel_rfl) (fun _ _ _ h => h) (Or.inl ⟨by rfl, ?_⟩) (by assumption) ?_
          rotate_left
          · (intro w hSw; (try dsimp only at hSw); go_simp; (try with_reducible rfl))
          (try simp only [List.getElem_toArray, List.getElem_cons_succ, List.getElem_cons_zero, Act.put, List.setIfInBounds_toArray, List.set_cons_zero, List.set_cons_succ])
          refine wpAnyH_take (i := 6) (v := ?_) rfl (by kernel_rfl) (by kernel_rfl) (by kernel_rfl) (fun _ _ _ h => h) (Or.inl ⟨by rfl, ?_⟩) (by assumption) ?_
          rotate_left
          · (intro w hSw; (try dsimp only at hSw); go_simp; (try with_reducible rfl))
          (try simp only [List.getElem_toArray, List.getElem_cons_succ, List.getElem_cons_zero, Act.put, List.setIfInBounds_toArray, List.set_cons_zero, List.set_cons_succ])
          have rb80 := b8.cell 0 _ rfl
          have qb80 := b8.frozen 0
          have rb81 := b8.cell 1 _ rfl
          have qb81 := b8.frozen 1
          have rb82 := b8.cell 2 _ rfl
          have qb82 := b8.frozen 2
          have rb83 := b8.cell 3 _ rfl
          have qb83 := b8.frozen 3
          have rb84 := b8.cell 4 _ rfl
          have qb84 := b8.frozen 4
          have rb85 := b8.cell 5 _ rfl
          have qb85 := b8.frozen 5
          refine wpAnyH_ready (rs := [8]) (by kernel_rfl) (by simp) (AllReadyH.cons (o := _) rfl (fun K hK => ?_) AllReadyH.nil)
          go_simp
          clear rb80 qb80
          clear rb81 qb81
          clear rb82 qb82
          clear rb83 qb83
          clear rb84 qb84
          clear rb85 qb85
          have hg := only_store6 y9_6 (y9_1.heap.size) (.bool s10) (.slice A10 n10 c10) (.slice D10 m10 e10) (.bool s11) (.slice A11 n11 c11) (.slice D11 m11 e11)
          have hB := b8.stored6 (.bool s10) (.slice A10 n10 c10) (.slice D10 m10 e10) (.bool s11) (.slice A11 n11 c11) (.slice D11 m11 e11)
          generalize hX : ((((((y9_6.setCell ⟨y9_1.heap.size, 0, none⟩ (.bool s10)).setCell ⟨y9_1.heap.size, 1, none⟩ (.slice A10 n10 c10)).setCell ⟨y9_1.heap.size, 2, none⟩ (.slice D10 m10 e10)).setCell ⟨y9_1.heap.size, 3, none⟩ (.bool s11)).setCell ⟨y9_1.heap.size, 4, none⟩ (.slice A11 n11 c11)).setCell ⟨y9_1.heap.size, 5, none⟩ (.slice D11 m11 e11)) = Y9_7 at hg hB ⊢
          clear hX
          replace k2 := k2.kept b8 (by simp [notInt]) hg
          replace k3 := k3.kept b8 (by simp [notInt]) hg
          replace b8 := hB
          replace hG := below_only hG hg (by omega) sG
          replace sG := hG.size
          clear hg hB
          refine hK.out _ _ ⟨(b4.below hG).cell 0 _ rfl, (b4.below hG).cell 1 _ rfl, (b4.below hG).cell 2 _ rfl, (b4.below hG).cell 3 _ rfl, (b4.below hG).cell 4 _ rfl, (b4.below hG).cell 5 _ rfl, (b5.below hG).cell 0 _ rfl, (b5.below hG).cell 1 _ rfl, (b5.below hG).cell 2 _ rfl, (b5.below hG).cell 3 _ rfl, (b5.below hG).cell 4 _ rfl, (b5.below hG).cell 5 _ rfl⟩ (fun hHeld => ?_)
          clear hK K
          (try simp only [List.getElem_toArray, List.getElem_cons_succ, List.getElem_cons_zero, Act.put, List.setIfInBounds_toArray, List.set_cons_zero, List.set_cons_succ])
          refine wpAnyH_take (i := 9) (v := ?_) rfl (by kernel_rfl) (by kernel_rfl) (by kernel_rfl) (fun _ _ _ h => h) (Or.inl ⟨by rfl, ?_⟩) (by assumption) ?_
          rotate_left
          · (intro w hSw; (try dsimp only at hSw); go_simp; (try with_reducible rfl))
          (try simp only [List.getElem_toArray, List.getElem_cons_succ, List.getElem_cons_zero, Act.put, List.setIfInBounds_toArray, List.set_cons_zero, List.set_cons_succ])
          refine wpAnyH_done (by kernel_rfl) ?_ _
          refine NoPanic.normal ?_
          go_wp2_with fail
          go_meet
          exact ⟨y9_1.heap.size, s10, A10, n10, c10, D10, m10, e10, s11, A11, n11, c11, D11, m11, e11, rfl, rfl, b8, (by omega), hG⟩
      · go_simp
        obtain ⟨y9_8, hV, b8, hb9, szy9_8⟩ := boxes1 v9 #[.bool false, .slice none 0 0, .slice none 0 0, .bool false, .slice none 0 0, .slice none 0 0] 54
        rw [hV]
        clear hV
        have gly9_8 : W8.heap.size ≤ v9.heap.size := sG
        replace szy9_8 : v9.heap.size < y9_8.heap.size := by omega
        replace hG := hG.trans (hb9.mono sG)
        replace sG := hG.size
        clear hb9
        refine hK.out _ _ ⟨(b4.below hG).cell 0 _ rfl, (b4.below hG).cell 1 _ rfl, (b4.below hG).cell 2 _ rfl, (b4.below hG).cell 3 _ rfl, (b4.below hG).cell 4 _ rfl, (b4.below hG).cell 5 _ rfl, (b5.below hG).cell 0 _ rfl, (b5.below hG).cell 1 _ rfl, (b5.below hG).cell 2 _ rfl, (b5.below hG).cell 3 _ rfl, (b5.below hG).cell 4 _ rfl, (b5.below hG).cell 5 _ rfl⟩ (fun hHeld => ?_)
        clear hK K
        (try simp only [List.getElem_toArray, List.getElem_cons_succ, List.getElem_cons_zero, Act.put, List.setIfInBounds_toArray, List.set_cons_zero, List.set_cons_succ])
        refine wpAnyH_ready (rs := [2]) (by kernel_rfl) (by simp) (AllReadyH.cons (o := _) rfl (fun K hK => ?_) AllReadyH.nil)
        go_simp
        go_at_call 54
        refine (lreverse_v (g18.below hG) (g19.below hG) (g20.below hG) V0.out (by decide)).mono ?_
        rintro e y9_9 ⟨s0, A0, n0, c0, s1, A1, n1, c1, s2, A2, n2, c2, rfl, m0, m1, m2, hb9⟩
        have szy9_9 := hb9.size
        replace b8 := b8.below hb9
        replace hG := hG.trans (hb9.mono sG)
        replace sG := hG.size
        clear hb9
        go_wp2_with fail
        refine hK.out _ _ ⟨(b4.below hG).cell 0 _ rfl, (b4.below hG).cell 1 _ rfl, (b4.below hG).cell 2 _ rfl, (b4.below hG).cell 3 _ rfl, (b4.below hG).cell 4 _ rfl, (b4.below hG).cell 5 _ rfl, (b5.below hG).cell 0 _ rfl, (b5.below hG).cell 1 _ rfl, (b5.below hG).cell 2 _ rfl, (b5.below hG).cell 3 _ rfl, (b5.below hG).cell 4 _ rfl, (b5.below hG).cell 5 _ rfl⟩ (fun hHeld => ?_)
        clear hK K
        (try simp only [List.getElem_toArray, List.getElem_cons_succ, List.getElem_cons_zero, Act.put, List.setIfInBounds_toArray, List.set_cons_zero, List.set_cons_succ])
        refine wpAnyH_ready (rs := [3]) (by kernel_rfl) (by simp) (AllReadyH.cons (o := _) rfl (fun K hK => ?_) AllReadyH.nil)
        go_simp
        go_at_call 41
        refine (lmeet_zo (g15.below hG) (g16.below hG) (g17.below hG) V1.out m0 m1 m2 V2.out HD2.out (by decide)).mono ?_
        rintro e y9_10 ⟨s10, A10, n10, c10, D10, m10, e10, s11, A11, n11, c11, D11, m11, e11, rfl, k2, k3, hb9⟩
        have szy9_10 := hb9.size
        replace m0 := m0.below hb9
        replace m1 := m1.below hb9
        replace m2 := m2.below hb9
        replace b8 := b8.below hb9
        replace hG := hG.trans (hb9.mono sG)
        replace sG := hG.size
        clear hb9
        clear m0
        clear m1
        clear m2
        go_wp2_with fail
        refine hK.out _ _ ⟨(b4.below hG).cell 0 _ rfl, (b4.below hG).cell 1 _ rfl, (b4.below hG).cell 2 _ rfl, (b4.below hG).cell 3 _ rfl, (b4.below hG).cell 4 _ rfl, (b4.below hG).cell 5 _ rfl, (b5.below hG).cell 0 _ rfl, (b5.below hG).cell 1 _ rfl, (b5.below hG).cell 2 _ rfl, (b5.below hG).cell 3 _ rfl, (b5.below hG).cell 4 _ rfl, (b5.below hG).cell 5 _ rfl⟩ (fun hHeld => ?_)
        clear hK K
        (try simp only [List.getElem_toArray, List.getElem_cons_succ, List.getElem_cons_zero, Act.put, List.setIfInBounds_toArray, List.set_cons_zero, List.set_cons_succ])
        refine wpAnyH_take (i := 4) (v := ?_) rfl (by kernel_rfl) (by kernel_rfl) (by kernel_rfl) (fun _ _ _ h => h) (Or.inl ⟨by rfl, ?_⟩) (by assumption) ?_
        rotate_left
        · (intro w hSw; (try dsimp only at hSw); go_simp; (try with_reducible rfl))
        (try simp only [List.getElem_toArray, List.getElem_cons_succ, List.getElem_cons_zero, Act.put, List.setIfInBounds_toArray, List.set_cons_zero, List.set_cons_succ])
        refine wpAnyH_take (i := 5) (v := ?_) rfl (by kernel_rfl) (by kernel_rfl) (by kernel_rfl) (fun _ _ _ h => h) (Or.inl ⟨by rfl, ?_⟩) (by assumption) ?_
        rotate_left
        · (intro w hSw; (try dsimp only at hSw); go_simp; (try with_reducible rfl))
        (try simp only [List.getElem_toArray, List.getElem_cons_succ, List.getElem_cons_zero, Act.put, List.setIfInBounds_toArray, List.set_cons_zero, List.set_cons_succ])
        refine wpAnyH_take (i := 6) (v := ?_) rfl (by kernel_rfl) (by kernel_rfl) (by kernel_rfl) (fun _ _ _ h => h) (Or.inl ⟨by rfl, ?_⟩) (by assumption) ?_
        rotate_left
        · (intro w hSw; (try dsimp only at hSw); go_simp; (try with_reducible rfl))
        (try simp only [List.getElem_toArray, List.getElem_cons_succ, List.getElem_cons_zero, Act.put, List.setIfInBounds_toArray, List.set_cons_zero, List.set_cons_succ])
        have rb80 := b8.cell 0 _ rfl
        have qb80 := b8.frozen 0
        have rb81 := b8.cell 1 _ rfl
        have qb81 := b8.frozen 1
        have rb82 := b8.cell 2 _ rfl
        have qb82 := b8.frozen 2
        have rb83 := b8.cell 3 _ rfl
        have qb83 := b8.frozen 3
        have rb84 := b8.cell 4 _ rfl
        have qb84 := b8.frozen 4
        have rb85 := b8.cell 5 _ rfl
        have qb85 := b8.frozen 5
        refine wpAnyH_ready (rs := [8]) (by kernel_rfl) (by simp) (AllReadyH.cons (o := _) rfl (fun K hK => ?_) AllReadyH.nil)
        go_simp
        clear rb80 qb80
        clear rb81 qb81
        clear rb82 qb82
        clear rb83 qb83
        clear rb84 qb84
        clear rb85 qb85
        have hg := only_store6 y9_10 (v9.heap.size) (.bool s10) (.slice A10 n10 c10) (.slice D10 m10 e10) (.bool s11) (.slice A11 n11 c11) (.slice D11 m11 e11)
        have hB := b8.stored6 (.bool s10) (.slice A10 n10 c10) (.slice D10 m10 e10) (.bool s11) (.slice A11 n11 c11) (.slice D11 m11 e11)
        generalize hX : ((((((y9_10.setCell ⟨v9.heap.size, 0, none⟩ (.bool s10)).setCell ⟨v9.heap.size, 1, none⟩ (.slice A10 n10 c10)).setCell ⟨v9.heap.size, 2, none⟩ (.slice D10 m10 e10)).setCell ⟨v9.heap.size, 3, none⟩ (.bool s11)).setCell ⟨v9.heap.size, 4, none⟩ (.slice A11 n11 c11)).setCell ⟨v9.heap.size, 5, none⟩ (.slice D11 m11 e11)) = Y9_11 at hg hB ⊢
        clear hX
        replace k2 := k2.kept b8 (by simp [notInt]) hg
        replace k3 := k3.kept b8 (by simp [notInt]) hg
        replace b8 := hB
        replace hG := below_only hG hg (by omega) sG
        replace sG := hG.size
        clear hg hB
        refine hK.out _ _ ⟨(b4.below hG).cell 0 _ rfl, (b4.below hG).cell 1 _ rfl, (b4.below hG).cell 2 _ rfl, (b4.below hG).cell 3 _ rfl, (b4.below hG).cell 4 _ rfl, (b4.below hG).cell 5 _ rfl, (b5.below hG).cell 0 _ rfl, (b5.below hG).cell 1 _ rfl, (b5.below hG).cell 2 _ rfl, (b5.below hG).cell 3 _ rfl, (b5.below hG).cell 4 _ rfl, (b5.below hG).cell 5 _ rfl⟩ (fun hHeld => ?_)
        clear hK K
        (try simp only [List.getElem_toArray, List.getElem_cons_succ, List.getElem_cons_zero, Act.put, List.setIfInBounds_toArray, List.set_cons_zero, List.set_cons_succ])
        refine wpAnyH_take (i := 9) (v := ?_) rfl (by kernel_rfl) (by kernel_rfl) (by kernel_rfl) (fun _ _ _ h => h) (Or.inl ⟨by rfl, ?_⟩) (by assumption) ?_
        rotate_left
        · (intro w hSw; (try dsimp only at hSw); go_simp; (try with_reducible rfl))
        (try simp only [List.getElem_toArray, List.getElem_cons_succ, List.getElem_cons_zero, Act.put, List.setIfInBounds_toArray, List.set_cons_zero, List.set_cons_succ])
        refine wpAnyH_done (by kernel_rfl) ?_ _
        refine NoPanic.normal ?_
        go_wp2_with fail
        go_meet
        exact ⟨v9.heap.size, s10, A10, n10, c10, D10, m10, e10, s11, A11, n11, c11, D11, m11, e11, rfl, rfl, b8, (by omega), hG⟩
    obtain ⟨g9_0, s10, A10, n10, c10, D10, m10, e10, s11, A11, n11, c11, D11, m11, e11, rfl, rfl, b8, glg9_0, hG⟩ := hcut
    replace g18 := g18.below hG
    replace g19 := g19.below hG
    replace g20 := g20.below hG
    replace g15 := g15.below hG
    replace g16 := g16.below hG
    replace g17 := g17.below hG
    replace b4 := b4.below hG
    replace b5 := b5.below hG
    replace b6 := b6.below hG
    replace H0 := H0.trans (hG.mono H0.size)
    clear hG
    go_wp2_with fail
    refine (known5_any).mono ?_
    rintro e w11 ⟨rfl, hb⟩
    replace g18 := g18.below hb
    replace g19 := g19.below hb
    replace g20 := g20.below hb
    replace g15 := g15.below hb
    replace g16 := g16.below hb
    replace g17 := g17.below hb
    replace b4 := b4.below hb
    replace b5 := b5.below hb
    replace b6 := b6.below hb
    replace b8 := b8.below hb
    replace H0 := H0.trans (hb.mono H0.size)
    clear hb
    have cb40 := b4.cell 0 _ rfl
    have cb41 := b4.cell 1 _ rfl
    have cb42 := b4.cell 2 _ rfl
    have cb43 := b4.cell 3 _ rfl
    have cb44 := b4.cell 4 _ rfl
    have cb45 := b4.cell 5 _ rfl
    have cb50 := b5.cell 0 _ rfl
    have cb51 := b5.cell 1 _ rfl
    have cb52 := b5.cell 2 _ rfl
    have cb53 := b5.cell 3 _ rfl
    have cb54 := b5.cell 4 _ rfl
    have cb55 := b5.cell 5 _ rfl
    go_wp2_with fail
    clear cb40 cb41 cb42 cb43 cb44 cb45 cb50 cb51 cb52 cb53 cb54 cb55
    refine (lparallel_v g18 g19 g20 V0.out g15 g16 g17 V1.out (decide_eq_true HD.out) (by decide)).mono ?_
    rintro e w12 ⟨rfl, hb⟩
    replace g18 := g18.below hb
    replace g19 := g19.below hb
    replace g20 := g20.below hb
    replace g15 := g15.below hb
    replace g16 := g16.below hb
    replace g17 := g17.below hb
    replace b4 := b4.below hb
    replace b5 := b5.below hb
    replace b6 := b6.below hb
    replace b8 := b8.below hb
    replace H0 := H0.trans (hb.mono H0.size)
    clear hb
    go_wp2_with fail
    go_returns
    exact ⟨rfl, H0⟩
  · have HD := Lib.hid hd
    have HD2 := Lib.hid (det_revn hd)
    clear hd
    have V2 := Lib.hid (vl_neg V0.out)
    refine (lmeet_v g18 g19 g20 V0.out g15 g16 g17 V1.out HD.out (by decide)).mono ?_
    rintro e w7 ⟨s12, A12, n12, c12, D12, m12, e12, s13, A13, n13, c13, D13, m13, e13, rfl, k0, k1, hb⟩
    replace g18 := g18.below hb
    replace g19 := g19.below hb
    replace g20 := g20.below hb
    replace g15 := g15.below hb
    replace g16 := g16.below hb
    replace g17 := g17.below hb
    replace b4 := b4.below hb
    replace b5 := b5.below hb
    replace H0 := H0.trans (hb.mono H0.size)
    clear hb
    have lb4_8 := b4.lt
    have lb5_8 := b5.lt
    obtain ⟨W8, hW, b6, hbW, hszW8⟩ := boxes1 w7 #[.bool s12, .slice A12 n12 c12, .slice D12 m12 e12, .bool s13, .slice A13 n13 c13, .slice D13 m13 e13] 54
    skip
    skip
    replace g18 := g18.below hbW
    replace g19 := g19.below hbW
    replace g20 := g20.below hbW
    replace g15 := g15.below hbW
    replace g16 := g16.below hbW
    replace g17 := g17.below hbW
    replace k0 := k0.below hbW
    replace k1 := k1.below hbW
    replace b4 := b4.below hbW
    replace b5 := b5.below hbW
    replace H0 := H0.trans (hbW.mono H0.size)
    clear hbW
    have cb40 := b4.cell 0 _ rfl
    have cb41 := b4.cell 1 _ rfl
    have cb42 := b4.cell 2 _ rfl
    have cb43 := b4.cell 3 _ rfl
    have cb44 := b4.cell 4 _ rfl
    have cb45 := b4.cell 5 _ rfl
    have cb50 := b5.cell 0 _ rfl
    have cb51 := b5.cell 1 _ rfl
    have cb52 := b5.cell 2 _ rfl
    have cb53 := b5.cell 3 _ rfl
    have cb54 := b5.cell 4 _ rfl
    have cb55 := b5.cell 5 _ rfl
    go_wp2_with fail
    clear hW
    clear cb40 cb41 cb42 cb43 cb44 cb45 cb50 cb51 cb52 cb53 cb54 cb55
    have lcb4_9 := b4.lt
    have lcb5_9 := b5.lt
    have lcb6_9 := b6.lt
    go_cut [8, 9] from 9 (fun u9_0 _x0 wx => ∃ g9_0 s10 A10 n10 c10 D10 m10 e10 s11 A11 n11 c11 D11 m11 e11, u9_0 = .pointer (some ⟨g9_0, 0, none⟩) ∧ _x0 = .bool true ∧ NQ wx s10 (.slice A10 n10 c10) (.slice D10 m10 e10) (((z4 * -z2 - z5 * -z1 : Int) : Rat) / ((z3 * -z1 - z4 * -z0 : Int) : Rat)) (2 * 1 + 1) ∧ NQ wx s11 (.slice A11 n11 c11) (.slice D11 m11 e11) (((z5 * -z0 - z3 * -z2 : Int) : Rat) / ((z3 * -z1 - z4 * -z0 : Int) : Rat)) (2 * 1 + 1) ∧ Box wx g9_0 #[.bool s10, .slice A10 n10 c10, .slice D10 m10 e10, .bool s11, .slice A11 n11 c11, .slice D11 m11 e11] 54 ∧ W8.heap.size ≤ g9_0 ∧ Below W8.heap.size W8 wx)
    case first =>
      have hG := drawn_below W8
      refine wp_region_noPanic ?_
      refine wp_region_held_drew (S := (fun V => V.cell? ⟨w5.heap.size, 0, none⟩ = some (.bool s18) ∧ V.cell? ⟨w5.heap.size, 1, none⟩ = some (.slice A18 n18 c18) ∧ V.cell? ⟨w5.heap.size, 2, none⟩ = some (.bool s19) ∧ V.cell? ⟨w5.heap.size, 3, none⟩ = some (.slice A19 n19 c19) ∧ V.cell? ⟨w5.heap.size, 4, none⟩ = some (.bool s20) ∧ V.cell? ⟨w5.heap.size, 5, none⟩ = some (.slice A20 n20 c20) ∧ V.cell? ⟨w5.heap.size + 1, 0, none⟩ = some (.bool s15) ∧ V.cell? ⟨w5.heap.size + 1, 1, none⟩ = some (.slice A15 n15 c15) ∧ V.cell? ⟨w5.heap.size + 1, 2, none⟩ = some (.bool s16) ∧ V.cell? ⟨w5.heap.size + 1, 3, none⟩ = some (.slice A16 n16 c16) ∧ V.cell? ⟨w5.heap.size + 1, 4, none⟩ = some (.bool s17) ∧ V.cell? ⟨w5.heap.size + 1, 5, none⟩ = some (.slice A17 n17 c17))) (by kernel_rfl) ⟨(b4.below hG).cell 0 _ rfl, (b4.below hG).cell 1 _ rfl, (b4.below hG).cell 2 _ rfl, (b4.below hG).cell 3 _ rfl, (b4.below hG).cell 4 _ rfl, (b4.below hG).cell 5 _ rfl, (b5.below hG).cell 0 _ rfl, (b5.below hG).cell 1 _ rfl, (b5.below hG).cell 2 _ rfl, (b5.below hG).cell 3 _ rfl, (b5.below hG).cell 4 _ rfl, (b5.below hG).cell 5 _ rfl⟩ (fun hHeld => ?_)
      generalize W8.drew = v9 at hG hHeld ⊢
      have sG := hG.size
      refine wpAnyH_take (i := 0) (v := ?_) rfl (by kernel_rfl) (by kernel_rfl) (by kernel_rfl) (fun _ _ _ h => h) (Or.inl ⟨by rfl, ?_⟩) (by assumption) ?_
      rotate_left
      · (intro w hSw; (try dsimp only at hSw); go_simp; (try with_reducible rfl))
      (try simp only [List.getElem_toArray, List.getElem_cons_zero, Act.put, List.setIfInBounds_toArray, List.set_cons_zero, List.set_cons_succ])
      refine wpAnyH_take (i := 1) (v := ?_) rfl (by kernel_rfl) (by kernel_rfl) (by kernel_rfl) (fun _ _ _ h => h) (Or.inl ⟨by rfl, ?_⟩) (by assumption) ?_
      rotate_left
      · (intro w hSw; (try dsimp only at hSw); go_simp; (try with_reducible rfl))
      (try simp only [List.getElem_toArray, List.getElem_cons_succ, List.getElem_cons_zero, Act.put, List.setIfInBounds_toArray, List.set_cons_zero, List.set_cons_succ])
      refine wpAnyH_ready (rs := [2, 7]) (by kernel_rfl) (by simp) (AllReadyH.cons (o := _) rfl (fun K hK => ?_) (AllReadyH.cons (o := _) rfl (fun K hK => ?_) AllReadyH.nil))
      · go_simp
        go_at_call 54
        refine (lreverse_v (g18.below hG) (g19.below hG) (g20.below hG) V0.out (by decide)).mono ?_
        rintro e y9_1 ⟨s0, A0, n0, c0, s1, A1, n1, c1, s2, A2, n2, c2, rfl, m0, m1, m2, hb9⟩
        have szy9_1 := hb9.size
        replace hG := hG.trans (hb9.mono sG)
        replace sG := hG.size
        clear hb9
        go_wp2_with fail
        refine hK.out _ _ ⟨(b4.below hG).cell 0 _ rfl, (b4.below hG).cell 1 _ rfl, (b4.below hG).cell 2 _ rfl, (b4.below hG).cell 3 _ rfl, (b4.below hG).cell 4 _ rfl, (b4.below hG).cell 5 _ rfl, (b5.below hG).cell 0 _ rfl, (b5.below hG).cell 1 _ rfl, (b5.below hG).cell 2 _ rfl, (b5.below hG).cell 3 _ rfl, (b5.below hG).cell 4 _ rfl, (b5.below hG).cell 5 _ rfl⟩ (fun hHeld => ?_)
        clear hK K
        (try simp only [List.getElem_toArray, List.getElem_cons_succ, List.getElem_cons_zero, Act.put, List.setIfInBounds_toArray, List.set_cons_zero, List.set_cons_succ])
        refine wpAnyH_ready (rs := [3, 7]) (by kernel_rfl) (by simp) (AllReadyH.cons (o := _) rfl (fun K hK => ?_) (AllReadyH.cons (o := _) rfl (fun K hK => ?_) AllReadyH.nil))
        · go_simp
          go_at_call 41
          refine (lmeet_v (g15.below hG) (g16.below hG) (g17.below hG) V1.out m0 m1 m2 V2.out HD2.out (by decide)).mono ?_
          rintro e y9_2 ⟨s10, A10, n10, c10, D10, m10, e10, s11, A11, n11, c11, D11, m11, e11, rfl, k2, k3, hb9⟩
          have szy9_2 := hb9.size
          replace m0 := m0.below hb9
          replace m1 := m1.below hb9
          replace m2 := m2.below hb9
          replace hG := hG.trans (hb9.mono sG)
          replace sG := hG.size
          clear hb9
          clear m0
          clear m1
          clear m2
          go_wp2_with fail
          refine hK.out _ _ ⟨(b4.below hG).cell 0 _ rfl, (b4.below hG).cell 1 _ rfl, (b4.below hG).cell 2 _ rfl, (b4.below hG).cell 3 _ rfl, (b4.below hG).cell 4 _ rfl, (b4.below hG).cell 5 _ rfl, (b5.below hG).cell 0 _ rfl, (b5.below hG).cell 1 _ rfl, (b5.below hG).cell 2 _ rfl, (b5.below hG).cell 3 _ rfl, (b5.below hG).cell 4 _ rfl, (b5.below hG).cell 5 _ rfl⟩ (fun hHeld => ?_)
          clear hK K
          (try simp only [List.getElem_toArray, List.getElem_cons_succ, List.getElem_cons_zero, Act.put, List.setIfInBounds_toArray, List.set_cons_zero, List.set_cons_succ])
          refine wpAnyH_take (i := 4) (v := ?_) rfl (by kernel_rfl) (by kernel_rfl) (by kernel_rfl) (fun _ _ _ h => h) (Or.inl ⟨by rfl, ?_⟩) (by assumption) ?_
          rotate_left
          · (intro w hSw; (try dsimp only at hSw); go_simp; (try with_reducible rfl))
          (try simp only [List.getElem_toArray, List.getElem_cons_succ, List.getElem_cons_zero, Act.put, List.setIfInBounds_toArray, List.set_cons_zero, List.set_cons_succ])
          refine wpAnyH_take (i := 5) (v := ?_) rfl (by kernel_rfl) (by kernel_rfl) (by kernel_rfl) (fun _ _ _ h => h) (Or.inl ⟨by rfl, ?_⟩) (by assumption) ?_
          rotate_left
          · (intro w hSw; (try dsimp only at hSw); go_simp; (try with_reducible rfl))
          (try simp only [List.getElem_toArray, List.getElem_cons_succ, List.getElem_cons_zero, Act.put, List.setIfInBounds_toArray, List.set_cons_zero, List.set_cons_succ])
          refine wpAnyH_take (i := 6) (v := ?_) rfl (by kernel_rfl) (by kernel_rfl) (by kernel_rfl) (fun _ _ _ h => h) (Or.inl ⟨by rfl, ?_⟩) (by assumption) ?_
          rotate_left
          · (intro w hSw; (try dsimp only at hSw); go_simp; (try with_reducible rfl))
          (try simp only [List.getElem_toArray, List.getElem_cons_succ, List.getElem_cons_zero, Act.put, List.setIfInBounds_toArray, List.set_cons_zero, List.set_cons_succ])
          refine wpAnyH_ready (rs := [7]) (by kernel_rfl) (by simp) (AllReadyH.cons (o := _) rfl (fun K hK => ?_) AllReadyH.nil)
          go_simp
          obtain ⟨y9_3, hV, b8, hb9, szy9_3⟩ := boxes1 y9_2 #[.bool false, .slice none 0 0, .slice none 0 0, .bool false, .slice none 0 0, .slice none 0 0] 54
          rw [hV]
          clear hV
          have gly9_3 : W8.heap.size ≤ y9_2.heap.size := sG
          replace szy9_3 : y9_2.heap.size < y9_3.heap.size := by omega
          replace k2 := k2.below hb9
          replace k3 := k3.below hb9
          replace hG := hG.trans (hb9.mono sG)
          replace sG := hG.size
          clear hb9
          refine hK.out _ _ ⟨(b4.below hG).cell 0 _ rfl, (b4.below hG).cell 1 _ rfl, (b4.below hG).cell 2 _ rfl, (b4.below hG).cell 3 _ rfl, (b4.below hG).cell 4 _ rfl, (b4.below hG).cell 5 _ rfl, (b5.below hG).cell 0 _ rfl, (b5.below hG).cell 1 _ rfl, (b5.below hG).cell 2 _ rfl, (b5.below hG).cell 3 _ rfl, (b5.below hG).cell 4 _ rfl, (b5.below hG).cell 5 _ rfl⟩ (fun hHeld => ?_)
          clear hK K
          (try simp only [List.getElem_toArray, List.getElem_cons_succ, List.getElem_cons_zero, Act.put, List.setIfInBounds_toArray, List.set_cons_zero, List.set_cons_succ])
          have rb80 := b8.cell 0 _ rfl
          have qb80 := b8.frozen 0
          have rb81 := b8.cell 1 _ rfl
          have qb81 := b8.frozen 1
          have rb82 := b8.cell 2 _ rfl
          have qb82 := b8.frozen 2
          have rb83 := b8.cell 3 _ rfl
          have qb83 := b8.frozen 3
          have rb84 := b8.cell 4 _ rfl
          have qb84 := b8.frozen 4
          have rb85 := b8.cell 5 _ rfl
          have qb85 := b8.frozen 5
          refine wpAnyH_ready (rs := [8]) (by kernel_rfl) (by simp) (AllReadyH.cons (o := _) rfl (fun K hK => ?_) AllReadyH.nil)
          go_simp
          clear rb80 qb80
          clear rb81 qb81
          clear rb82 qb82
          clear rb83 qb83
          clear rb84 qb84
          clear rb85 qb85
          have hg := only_store6 y9_3 (y9_2.heap.size) (.bool s10) (.slice A10 n10 c10) (.slice D10 m10 e10) (.bool s11) (.slice A11 n11 c11) (.slice D11 m11 e11)
          have hB := b8.stored6 (.bool s10) (.slice A10 n10 c10) (.slice D10 m10 e10) (.bool s11) (.slice A11 n11 c11) (.slice D11 m11 e11)
          generalize hX : ((((((y9_3.setCell ⟨y9_2.heap.size, 0, none⟩ (.bool s10)).setCell ⟨y9_2.heap.size, 1, none⟩ (.slice A10 n10 c10)).setCell ⟨y9_2.heap.size, 2, none⟩ (.slice D10 m10 e10)).setCell ⟨y9_2.heap.size, 3, none⟩ (.bool s11)).setCell ⟨y9_2.heap.size, 4, none⟩ (.slice A11 n11 c11)).setCell ⟨y9_2.heap.size, 5, none⟩ (.slice D11 m11 e11)) = Y9_4 at hg hB ⊢
          clear hX
          replace k2 := k2.kept b8 (by simp [notInt]) hg
          replace k3 := k3.kept b8 (by simp [notInt]) hg
          replace b8 := hB
          replace hG := below_only hG hg (by omega) sG
          replace sG := hG.size
          clear hg hB
          refine hK.out _ _ ⟨(b4.below hG).cell 0 _ rfl, (b4.below hG).cell 1 _ rfl, (b4.below hG).cell 2 _ rfl, (b4.below hG).cell 3 _ rfl, (b4.below hG).cell 4 _ rfl, (b4.below hG).cell 5 _ rfl, (b5.below hG).cell 0 _ rfl, (b5.below hG).cell 1 _ rfl, (b5.below hG).cell 2 _ rfl, (b5.below hG).cell 3 _ rfl, (b5.below hG).cell 4 _ rfl, (b5.below hG).cell 5 _ rfl⟩ (fun hHeld => ?_)
          clear hK K
          (try simp only [List.getElem_toArray, List.getElem_cons_succ, List.getElem_cons_zero, Act.put, List.setIfInBounds_toArray, List.set_cons_zero, List.set_cons_succ])
          refine wpAnyH_take (i := 9) (v := ?_) rfl (by kernel_rfl) (by kernel_rfl) (by kernel_rfl) (fun _ _ _ h => h) (Or.inl ⟨by rfl, ?_⟩) (by assumption) ?_
          rotate_left
          · (intro w hSw; (try dsimp only at hSw); go_simp; (try with_reducible rfl))
          (try simp only [List.getElem_toArray, List.getElem_cons_succ, List.getElem_cons_zero, Act.put, List.setIfInBounds_toArray, List.set_cons_zero, List.set_cons_succ])
          refine wpAnyH_done (by kernel_rfl) ?_ _
          refine NoPanic.normal ?_
          go_wp2_with fail
          go_meet
          exact ⟨y9_2.heap.size, s10, A10, n10, c10, D10, m10, e10, s11, A11, n11, c11, D11, m11, e11, rfl, rfl, k2, k3, b8, (by omega), hG⟩
        · go_simp
          obtain ⟨y9_5, hV, b8, hb9, szy9_5⟩ := boxes1 y9_1 #[.bool false, .slice none 0 0, .slice none 0 0, .bool false, .slice none 0 0, .slice none 0 0] 54
          rw [hV]
          clear hV
          have gly9_5 : W8.heap.size ≤ y9_1.heap.size := sG
          replace szy9_5 : y9_1.heap.size < y9_5.heap.size := by omega
          replace m0 := m0.below hb9
          replace m1 := m1.below hb9
          replace m2 := m2.below hb9
          replace hG := hG.trans (hb9.mono sG)
          replace sG := hG.size
          clear hb9
          refine hK.out _ _ ⟨(b4.below hG).cell 0 _ rfl, (b4.below hG).cell 1 _ rfl, (b4.below hG).cell 2 _ rfl, (b4.below hG).cell 3 _ rfl, (b4.below hG).cell 4 _ rfl, (b4.below hG).cell 5 _ rfl, (b5.below hG).cell 0 _ rfl, (b5.below hG).cell 1 _ rfl, (b5.below hG).cell 2 _ rfl, (b5.below hG).cell 3 _ rfl, (b5.below hG).cell 4 _ rfl, (b5.below hG).cell 5 _ rfl⟩ (fun hHeld => ?_)
          clear hK K
          (try simp only [List.getElem_toArray, List.getElem_cons_succ, List.getElem_cons_zero, Act.put, List.setIfInBounds_toArray, List.set_cons_zero, List.set_cons_succ])
          refine wpAnyH_ready (rs := [3]) (by kernel_rfl) (by simp) (AllReadyH.cons (o := _) rfl (fun K hK => ?_) AllReadyH.nil)
          go_simp
          go_at_call 41
          refine (lmeet_v (g15.below hG) (g16.below hG) (g17.below hG) V1.out m0 m1 m2 V2.out HD2.out (by decide)).mono ?_
          rintro e y9_6 ⟨s10, A10, n10, c10, D10, m10, e10, s11, A11, n11, c11, D11, m11, e11, rfl, k2, k3, hb9⟩
          have szy9_6 := hb9.size
          replace m0 := m0.below hb9
          replace m1 := m1.below hb9
          replace m2 := m2.below hb9
          replace b8 := b8.below hb9
          replace hG := hG.trans (hb9.mono sG)
          replace sG := hG.size
          clear hb9
          clear m0
          clear m1
          clear m2
          go_wp2_with fail
          refine hK.out _ _ ⟨(b4.below hG).cell 0 _ rfl, (b4.below hG).cell 1 _ rfl, (b4.below hG).cell 2 _ rfl, (b4.below hG).cell 3 _ rfl, (b4.below hG).cell 4 _ rfl, (b4.below hG).cell 5 _ rfl, (b5.below hG).cell 0 _ rfl, (b5.below hG).cell 1 _ rfl, (b5.below hG).cell 2 _ rfl, (b5.below hG).cell 3 _ rfl, (b5.below hG).cell 4 _ rfl, (b5.below hG).cell 5 _ rfl⟩ (fun hHeld => ?_)
          clear hK K
          (try simp only [List.getElem_toArray, List.getElem_cons_succ, List.getElem_cons_zero, Act.put, List.setIfInBounds_toArray, List.set_cons_zero, List.set_cons_succ])
          refine wpAnyH_take (i := 4) (v := ?_) rfl (by kernel_rfl) (by kernel_rfl) (by kernel_rfl) (fun _ _ _ h => h) (Or.inl ⟨by rfl, ?_⟩) (by assumption) ?_
          rotate_left
          · (intro w hSw; (try dsimp only at hSw); go_simp; (try with_reducible rfl))
          (try simp only [List.getElem_toArray, List.getElem_cons_succ, List.getElem_cons_zero, Act.put, List.setIfInBounds_toArray, List.set_cons_zero, List.set_cons_succ])
          refine wpAnyH_take (i := 5) (v := ?_) rfl (by kernel_rfl) (by kernel_rfl) (by kernel_rfl) (fun _ _ _ h => h) (Or.inl ⟨by rfl, ?_⟩) (by assumption) ?_
          rotate_left
          · (intro w hSw; (try dsimp only at hSw); go_simp; (try with_reducible rfl))
          (try simp only [List.getElem_toArray, List.getElem_cons_succ, List.getElem_cons_zero, Act.put, List.setIfInBounds_toArray, List.set_cons_zero, List.set_cons_succ])
          refine wpAnyH_take (i := 6) (v := ?_) rfl (by kernel_rfl) (by kernel_rfl) (by kernel_rfl) (fun _ _ _ h => h) (Or.inl ⟨by rfl, ?_⟩) (by assumption) ?_
          rotate_left
          · (intro w hSw; (try dsimp only at hSw); go_simp; (try with_reducible rfl))
          (try simp only [List.getElem_toArray, List.getElem_cons_succ, List.getElem_cons_zero, Act.put, List.setIfInBounds_toArray, List.set_cons_zero, List.set_cons_succ])
          have rb80 := b8.cell 0 _ rfl
          have qb80 := b8.frozen 0
          have rb81 := b8.cell 1 _ rfl
          have qb81 := b8.frozen 1
          have rb82 := b8.cell 2 _ rfl
          have qb82 := b8.frozen 2
          have rb83 := b8.cell 3 _ rfl
          have qb83 := b8.frozen 3
          have rb84 := b8.cell 4 _ rfl
          have qb84 := b8.frozen 4
          have rb85 := b8.cell 5 _ rfl
          have qb85 := b8.frozen 5
          refine wpAnyH_ready (rs := [8]) (by kernel_rfl) (by simp) (AllReadyH.cons (o := _) rfl (fun K hK => ?_) AllReadyH.nil)
          go_simp
          clear rb80 qb80
          clear rb81 qb81
          clear rb82 qb82
          clear rb83 qb83
          clear rb84 qb84
          clear rb85 qb85
          have hg := only_store6 y9_6 (y9_1.heap.size) (.bool s10) (.slice A10 n10 c10) (.slice D10 m10 e10) (.bool s11) (.slice A11 n11 c11) (.slice D11 m11 e11)
          have hB := b8.stored6 (.bool s10) (.slice A10 n10 c10) (.slice D10 m10 e10) (.bool s11) (.slice A11 n11 c11) (.slice D11 m11 e11)
          generalize hX : ((((((y9_6.setCell ⟨y9_1.heap.size, 0, none⟩ (.bool s10)).setCell ⟨y9_1.heap.size, 1, none⟩ (.slice A10 n10 c10)).setCell ⟨y9_1.heap.size, 2, none⟩ (.slice D10 m10 e10)).setCell ⟨y9_1.heap.size, 3, none⟩ (.bool s11)).setCell ⟨y9_1.heap.size, 4, none⟩ (.slice A11 n11 c11)).setCell ⟨y9_1.heap.size, 5, none⟩ (.slice D11 m11 e11)) = Y9_7 at hg hB ⊢
          clear hX
          replace k2 := k2.kept b8 (by simp [notInt]) hg
          replace k3 := k3.kept b8 (by simp [notInt]) hg
          replace b8 := hB
          replace hG := below_only hG hg (by omega) sG
          replace sG := hG.size
          clear hg hB
          refine hK.out _ _ ⟨(b4.below hG).cell 0 _ rfl, (b4.below hG).cell 1 _ rfl, (b4.below hG).cell 2 _ rfl, (b4.below hG).cell 3 _ rfl, (b4.below hG).cell 4 _ rfl, (b4.below hG).cell 5 _ rfl, (b5.below hG).cell 0 _ rfl, (b5.below hG).cell 1 _ rfl, (b5.below hG).cell 2 _ rfl, (b5.below hG).cell 3 _ rfl, (b5.below hG).cell 4 _ rfl, (b5.below hG).cell 5 _ rfl⟩ (fun hHeld => ?_)
          clear hK K
          (try simp only [List.getElem_toArray, List.getElem_cons_succ, List.getElem_cons_zero, Act.put, List.setIfInBounds_toArray, List.set_cons_zero, List.set_cons_succ])
          refine wpAnyH_take (i := 9) (v := ?_) rfl (by kernel_rfl) (by kernel_rfl) (by kernel_rfl) (fun _ _ _ h => h) (Or.inl ⟨by rfl, ?_⟩) (by assumption) ?_
          rotate_left
          · (intro w hSw; (try dsimp only at hSw); go_simp; (try with_reducible rfl))
          (try simp only [List.getElem_toArray, List.getElem_cons_succ, List.getElem_cons_zero, Act.put, List.setIfInBounds_toArray, List.set_cons_zero, List.set_cons_succ])
          refine wpAnyH_done (by kernel_rfl) ?_ _
          refine NoPanic.normal ?_
          go_wp2_with fail
          go_meet
          exact ⟨y9_1.heap.size, s10, A10, n10, c10, D10, m10, e10, s11, A11, n11, c11, D11, m11, e11, rfl, rfl, k2, k3, b8, (by omega), hG⟩
      · go_simp
        obtain ⟨y9_8, hV, b8, hb9, szy9_8⟩ := boxes1 v9 #[.bool false, .slice none 0 0, .slice none 0 0, .bool false, .slice none 0 0, .slice none 0 0] 54
        rw [hV]
        clear hV
        have gly9_8 : W8.heap.size ≤ v9.heap.size := sG
        replace szy9_8 : v9.heap.size < y9_8.heap.size := by omega
        replace hG := hG.trans (hb9.mono sG)
        replace sG := hG.size
        clear hb9
        refine hK.out _ _ ⟨(b4.below hG).cell 0 _ rfl, (b4.below hG).cell 1 _ rfl, (b4.below hG).cell 2 _ rfl, (b4.below hG).cell 3 _ rfl, (b4.below hG).cell 4 _ rfl, (b4.below hG).cell 5 _ rfl, (b5.below hG).cell 0 _ rfl, (b5.below hG).cell 1 _ rfl, (b5.below hG).cell 2 _ rfl, (b5.below hG).cell 3 _ rfl, (b5.below hG).cell 4 _ rfl, (b5.below hG).cell 5 _ rfl⟩ (fun hHeld => ?_)
        clear hK K
        (try simp only [List.getElem_toArray, List.getElem_cons_succ, List.getElem_cons_zero, Act.put, List.setIfInBounds_toArray, List.set_cons_zero, List.set_cons_succ])
        refine wpAnyH_ready (rs := [2]) (by kernel_rfl) (by simp) (AllReadyH.cons (o := _) rfl (fun K hK => ?_) AllReadyH.nil)
        go_simp
        go_at_call 54
        refine (lreverse_v (g18.below hG) (g19.below hG) (g20.below hG) V0.out (by decide)).mono ?_
        rintro e y9_9 ⟨s0, A0, n0, c0, s1, A1, n1, c1, s2, A2, n2, c2, rfl, m0, m1, m2, hb9⟩
        have szy9_9 := hb9.size
        replace b8 := b8.below hb9
        replace hG := hG.trans (hb9.mono sG)
        replace sG := hG.size
        clear hb9
        go_wp2_with fail
        refine hK.out _ _ ⟨(b4.below hG).cell 0 _ rfl, (b4.below hG).cell 1 _ rfl, (b4.below hG).cell 2 _ rfl, (b4.below hG).cell 3 _ rfl, (b4.below hG).cell 4 _ rfl, (b4.below hG).cell 5 _ rfl, (b5.below hG).cell 0 _ rfl, (b5.below hG).cell 1 _ rfl, (b5.below hG).cell 2 _ rfl, (b5.below hG).cell 3 _ rfl, (b5.below hG).cell 4 _ rfl, (b5.below hG).cell 5 _ rfl⟩ (fun hHeld => ?_)
        clear hK K
        (try simp only [List.getElem_toArray, List.getElem_cons_succ, List.getElem_cons_zero, Act.put, List.setIfInBounds_toArray, List.set_cons_zero, List.set_cons_succ])
        refine wpAnyH_ready (rs := [3]) (by kernel_rfl) (by simp) (AllReadyH.cons (o := _) rfl (fun K hK => ?_) AllReadyH.nil)
        go_simp
        go_at_call 41
        refine (lmeet_v (g15.below hG) (g16.below hG) (g17.below hG) V1.out m0 m1 m2 V2.out HD2.out (by decide)).mono ?_
        rintro e y9_10 ⟨s10, A10, n10, c10, D10, m10, e10, s11, A11, n11, c11, D11, m11, e11, rfl, k2, k3, hb9⟩
        have szy9_10 := hb9.size
        replace m0 := m0.below hb9
        replace m1 := m1.below hb9
        replace m2 := m2.below hb9
        replace b8 := b8.below hb9
        replace hG := hG.trans (hb9.mono sG)
        replace sG := hG.size
        clear hb9
        clear m0
        clear m1
        clear m2
        go_wp2_with fail
        refine hK.out _ _ ⟨(b4.below hG).cell 0 _ rfl, (b4.below hG).cell 1 _ rfl, (b4.below hG).cell 2 _ rfl, (b4.below hG).cell 3 _ rfl, (b4.below hG).cell 4 _ rfl, (b4.below hG).cell 5 _ rfl, (b5.below hG).cell 0 _ rfl, (b5.below hG).cell 1 _ rfl, (b5.below hG).cell 2 _ rfl, (b5.below hG).cell 3 _ rfl, (b5.below hG).cell 4 _ rfl, (b5.below hG).cell 5 _ rfl⟩ (fun hHeld => ?_)
        clear hK K
        (try simp only [List.getElem_toArray, List.getElem_cons_succ, List.getElem_cons_zero, Act.put, List.setIfInBounds_toArray, List.set_cons_zero, List.set_cons_succ])
        refine wpAnyH_take (i := 4) (v := ?_) rfl (by kernel_rfl) (by kernel_rfl) (by kernel_rfl) (fun _ _ _ h => h) (Or.inl ⟨by rfl, ?_⟩) (by assumption) ?_
        rotate_left
        · (intro w hSw; (try dsimp only at hSw); go_simp; (try with_reducible rfl))
        (try simp only [List.getElem_toArray, List.getElem_cons_succ, List.getElem_cons_zero, Act.put, List.setIfInBounds_toArray, List.set_cons_zero, List.set_cons_succ])
        refine wpAnyH_take (i := 5) (v := ?_) rfl (by kernel_rfl) (by kernel_rfl) (by kernel_rfl) (fun _ _ _ h => h) (Or.inl ⟨by rfl, ?_⟩) (by assumption) ?_
        rotate_left
        · (intro w hSw; (try dsimp only at hSw); go_simp; (try with_reducible rfl))
        (try simp only [List.getElem_toArray, List.getElem_cons_succ, List.getElem_cons_zero, Act.put, List.setIfInBounds_toArray, List.set_cons_zero, List.set_cons_succ])
        refine wpAnyH_take (i := 6) (v := ?_) rfl (by kernel_rfl) (by kernel_rfl) (by kernel_rfl) (fun _ _ _ h => h) (Or.inl ⟨by rfl, ?_⟩) (by assumption) ?_
        rotate_left
        · (intro w hSw; (try dsimp only at hSw); go_simp; (try with_reducible rfl))
        (try simp only [List.getElem_toArray, List.getElem_cons_succ, List.getElem_cons_zero, Act.put, List.setIfInBounds_toArray, List.set_cons_zero, List.set_cons_succ])
        have rb80 := b8.cell 0 _ rfl
        have qb80 := b8.frozen 0
        have rb81 := b8.cell 1 _ rfl
        have qb81 := b8.frozen 1
        have rb82 := b8.cell 2 _ rfl
        have qb82 := b8.frozen 2
        have rb83 := b8.cell 3 _ rfl
        have qb83 := b8.frozen 3
        have rb84 := b8.cell 4 _ rfl
        have qb84 := b8.frozen 4
        have rb85 := b8.cell 5 _ rfl
        have qb85 := b8.frozen 5
        refine wpAnyH_ready (rs := [8]) (by kernel_rfl) (by simp) (AllReadyH.cons (o := _) rfl (fun K hK => ?_) AllReadyH.nil)
        go_simp
        clear rb80 qb80
        clear rb81 qb81
        clear rb82 qb82
        clear rb83 qb83
        clear rb84 qb84
        clear rb85 qb85
        have hg := only_store6 y9_10 (v9.heap.size) (.bool s10) (.slice A10 n10 c10) (.slice D10 m10 e10) (.bool s11) (.slice A11 n11 c11) (.slice D11 m11 e11)
        have hB := b8.stored6 (.bool s10) (.slice A10 n10 c10) (.slice D10 m10 e10) (.bool s11) (.slice A11 n11 c11) (.slice D11 m11 e11)
        generalize hX : ((((((y9_10.setCell ⟨v9.heap.size, 0, none⟩ (.bool s10)).setCell ⟨v9.heap.size, 1, none⟩ (.slice A10 n10 c10)).setCell ⟨v9.heap.size, 2, none⟩ (.slice D10 m10 e10)).setCell ⟨v9.heap.size, 3, none⟩ (.bool s11)).setCell ⟨v9.heap.size, 4, none⟩ (.slice A11 n11 c11)).setCell ⟨v9.heap.size, 5, none⟩ (.slice D11 m11 e11)) = Y9_11 at hg hB ⊢
        clear hX
        replace k2 := k2.kept b8 (by simp [notInt]) hg
        replace k3 := k3.kept b8 (by simp [notInt]) hg
        replace b8 := hB
        replace hG := below_only hG hg (by omega) sG
        replace sG := hG.size
        clear hg hB
        refine hK.out _ _ ⟨(b4.below hG).cell 0 _ rfl, (b4.below hG).cell 1 _ rfl, (b4.below hG).cell 2 _ rfl, (b4.below hG).cell 3 _ rfl, (b4.below hG).cell 4 _ rfl, (b4.below hG).cell 5 _ rfl, (b5.below hG).cell 0 _ rfl, (b5.below hG).cell 1 _ rfl, (b5.below hG).cell 2 _ rfl, (b5.below hG).cell 3 _ rfl, (b5.below hG).cell 4 _ rfl, (b5.below hG).cell 5 _ rfl⟩ (fun hHeld => ?_)
        clear hK K
        (try simp only [List.getElem_toArray, List.getElem_cons_succ, List.getElem_cons_zero, Act.put, List.setIfInBounds_toArray, List.set_cons_zero, List.set_cons_succ])
        refine wpAnyH_take (i := 9) (v := ?_) rfl (by kernel_rfl) (by kernel_rfl) (by kernel_rfl) (fun _ _ _ h => h) (Or.inl ⟨by rfl, ?_⟩) (by assumption) ?_
        rotate_left
        · (intro w hSw; (try dsimp only at hSw); go_simp; (try with_reducible rfl))
        (try simp only [List.getElem_toArray, List.getElem_cons_succ, List.getElem_cons_zero, Act.put, List.setIfInBounds_toArray, List.set_cons_zero, List.set_cons_succ])
        refine wpAnyH_done (by kernel_rfl) ?_ _
        refine NoPanic.normal ?_
        go_wp2_with fail
        go_meet
        exact ⟨v9.heap.size, s10, A10, n10, c10, D10, m10, e10, s11, A11, n11, c11, D11, m11, e11, rfl, rfl, k2, k3, b8, (by omega), hG⟩
    obtain ⟨g9_0, s10, A10, n10, c10, D10, m10, e10, s11, A11, n11, c11, D11, m11, e11, rfl, rfl, k2, k3, b8, glg9_0, hG⟩ := hcut
    replace g18 := g18.below hG
    replace g19 := g19.below hG
    replace g20 := g20.below hG
    replace g15 := g15.below hG
    replace g16 := g16.below hG
    replace g17 := g17.below hG
    replace k0 := k0.below hG
    replace k1 := k1.below hG
    replace b4 := b4.below hG
    replace b5 := b5.below hG
    replace b6 := b6.below hG
    replace H0 := H0.trans (hG.mono H0.size)
    clear hG
    go_wp2_with fail
    refine (known5_any).mono ?_
    rintro e w11 ⟨rfl, hb⟩
    replace g18 := g18.below hb
    replace g19 := g19.below hb
    replace g20 := g20.below hb
    replace g15 := g15.below hb
    replace g16 := g16.below hb
    replace g17 := g17.below hb
    replace k0 := k0.below hb
    replace k1 := k1.below hb
    replace k2 := k2.below hb
    replace k3 := k3.below hb
    replace b4 := b4.below hb
    replace b5 := b5.below hb
    replace b6 := b6.below hb
    replace b8 := b8.below hb
    replace H0 := H0.trans (hb.mono H0.size)
    clear hb
    have cb40 := b4.cell 0 _ rfl
    have cb41 := b4.cell 1 _ rfl
    have cb42 := b4.cell 2 _ rfl
    have cb43 := b4.cell 3 _ rfl
    have cb44 := b4.cell 4 _ rfl
    have cb45 := b4.cell 5 _ rfl
    have cb50 := b5.cell 0 _ rfl
    have cb51 := b5.cell 1 _ rfl
    have cb52 := b5.cell 2 _ rfl
    have cb53 := b5.cell 3 _ rfl
    have cb54 := b5.cell 4 _ rfl
    have cb55 := b5.cell 5 _ rfl
    go_wp2_with fail
    clear cb40 cb41 cb42 cb43 cb44 cb45 cb50 cb51 cb52 cb53 cb54 cb55
    refine (lparallel_v g18 g19 g20 V0.out g15 g16 g17 V1.out (decide_eq_false HD.out) (by decide)).mono ?_
    rintro e w12 ⟨rfl, hb⟩
    replace g18 := g18.below hb
    replace g19 := g19.below hb
    replace g20 := g20.below hb
    replace g15 := g15.below hb
    replace g16 := g16.below hb
    replace g17 := g17.below hb
    replace k0 := k0.below hb
    replace k1 := k1.below hb
    replace k2 := k2.below hb
    replace k3 := k3.below hb
    replace b4 := b4.below hb
    replace b5 := b5.below hb
    replace b6 := b6.below hb
    replace b8 := b8.below hb
    replace H0 := H0.trans (hb.mono H0.size)
    clear hb
    have cb40 := b4.cell 0 _ rfl
    have cb41 := b4.cell 1 _ rfl
    have cb42 := b4.cell 2 _ rfl
    have cb43 := b4.cell 3 _ rfl
    have cb44 := b4.cell 4 _ rfl
    have cb45 := b4.cell 5 _ rfl
    have cb60 := b6.cell 0 _ rfl
    have cb61 := b6.cell 1 _ rfl
    have cb62 := b6.cell 2 _ rfl
    have cb63 := b6.cell 3 _ rfl
    have cb64 := b6.cell 4 _ rfl
    have cb65 := b6.cell 5 _ rfl
    go_wp2_with fail
    have HS1 := Lib.hid (meet_on1 z0 z1 z2 z3 z4 z5 HD.out)
    have HS2 := Lib.hid (meet_on2 z0 z1 z2 z3 z4 z5 HD.out)
    clear cb40 cb41 cb42 cb43 cb44 cb45 cb60 cb61 cb62 cb63 cb64 cb65
    refine (lside_v (g18.more (by decide)) (g19.more (by decide)) (g20.more (by decide)) V0.out k0 k1 (by decide) HS1.out).mono ?_
    rintro e w13 ⟨rfl, hb⟩
    replace g18 := g18.below hb
    replace g19 := g19.below hb
    replace g20 := g20.below hb
    replace g15 := g15.below hb
    replace g16 := g16.below hb
    replace g17 := g17.below hb
    replace k0 := k0.below hb
    replace k1 := k1.below hb
    replace k2 := k2.below hb
    replace k3 := k3.below hb
    replace b4 := b4.below hb
    replace b5 := b5.below hb
    replace b6 := b6.below hb
    replace b8 := b8.below hb
    replace H0 := H0.trans (hb.mono H0.size)
    clear hb
    have cb50 := b5.cell 0 _ rfl
    have cb51 := b5.cell 1 _ rfl
    have cb52 := b5.cell 2 _ rfl
    have cb53 := b5.cell 3 _ rfl
    have cb54 := b5.cell 4 _ rfl
    have cb55 := b5.cell 5 _ rfl
    have cb60 := b6.cell 0 _ rfl
    have cb61 := b6.cell 1 _ rfl
    have cb62 := b6.cell 2 _ rfl
    have cb63 := b6.cell 3 _ rfl
    have cb64 := b6.cell 4 _ rfl
    have cb65 := b6.cell 5 _ rfl
    go_wp2_with fail
    clear cb50 cb51 cb52 cb53 cb54 cb55 cb60 cb61 cb62 cb63 cb64 cb65
    refine (lside_v (g15.more (by decide)) (g16.more (by decide)) (g17.more (by decide)) V1.out k0 k1 (by decide) HS2.out).mono ?_
    rintro e w14 ⟨rfl, hb⟩
    replace g18 := g18.below hb
    replace g19 := g19.below hb
    replace g20 := g20.below hb
    replace g15 := g15.below hb
    replace g16 := g16.below hb
    replace g17 := g17.below hb
    replace k0 := k0.below hb
    replace k1 := k1.below hb
    replace k2 := k2.below hb
    replace k3 := k3.below hb
    replace b4 := b4.below hb
    replace b5 := b5.below hb
    replace b6 := b6.below hb
    replace b8 := b8.below hb
    replace H0 := H0.trans (hb.mono H0.size)
    clear hb
    have cb60 := b6.cell 0 _ rfl
    have cb61 := b6.cell 1 _ rfl
    have cb62 := b6.cell 2 _ rfl
    have cb63 := b6.cell 3 _ rfl
    have cb64 := b6.cell 4 _ rfl
    have cb65 := b6.cell 5 _ rfl
    have cb80 := b8.cell 0 _ rfl
    have cb81 := b8.cell 1 _ rfl
    have cb82 := b8.cell 2 _ rfl
    have cb83 := b8.cell 3 _ rfl
    have cb84 := b8.cell 4 _ rfl
    have cb85 := b8.cell 5 _ rfl
    go_wp2_with fail
    have e1 : z0 * z4 - z1 * z3 = z3 * -z1 - z4 * -z0 := by grind
    have e2 : z1 * z5 - z2 * z4 = z4 * -z2 - z5 * -z1 := by grind
    have e3 : z2 * z3 - z0 * z5 = z5 * -z0 - z3 * -z2 := by grind
    clear cb60 cb61 cb62 cb63 cb64 cb65 cb80 cb81 cb82 cb83 cb84 cb85
    refine (samep_t k0 k1 k2 k3 (by rw [e1, e2]) (by rw [e1, e3])).mono ?_
    rintro e w15 ⟨rfl, hb⟩
    replace g18 := g18.below hb
    replace g19 := g19.below hb
    replace g20 := g20.below hb
    replace g15 := g15.below hb
    replace g16 := g16.below hb
    replace g17 := g17.below hb
    replace k0 := k0.below hb
    replace k1 := k1.below hb
    replace k2 := k2.below hb
    replace k3 := k3.below hb
    replace b4 := b4.below hb
    replace b5 := b5.below hb
    replace b6 := b6.below hb
    replace b8 := b8.below hb
    replace H0 := H0.trans (hb.mono H0.size)
    clear hb
    go_wp2_with fail
    go_returns
    exact ⟨rfl, H0⟩
end
end Go.Proofs.YtancgkmkbgkncaaGreat
