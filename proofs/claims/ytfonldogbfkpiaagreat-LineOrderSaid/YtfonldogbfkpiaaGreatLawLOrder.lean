/-
  The walk of the law LineOrder.
-/
import Derived.Deep.Cut
import Derived.Test.YtfonldogbfkpiaaGreatLnT
import Derived.Test.YtfonldogbfkpiaaGreatLnK
import Derived.Test.YtfonldogbfkpiaaGreatLnO
namespace Go.Proofs.YtfonldogbfkpiaaGreat
open Go.RowKit

section
variable {A0 A1 A2 A3 A4 A5 A6 A7 A8 A9 A10 A11 A12 A13 A14 A15 A16 A17 A18 A19 A20 A21 A22 A23 D0 D1 D2 D3 D4 D5 D6 D7 D8 D9 D10 D11 D12 D13 D14 D15 D16 D17 D18 D19 D20 D21 D22 D23 : Option Addr} {n0 n1 n2 n3 n4 n5 n6 n7 n8 n9 n10 n11 n12 n13 n14 n15 n16 n17 n18 n19 n20 n21 n22 n23 c0 c1 c2 c3 c4 c5 c6 c7 c8 c9 c10 c11 c12 c13 c14 c15 c16 c17 c18 c19 c20 c21 c22 c23 m0 m1 m2 m3 m4 m5 m6 m7 m8 m9 m10 m11 m12 m13 m14 m15 m16 m17 m18 m19 m20 m21 m22 m23 e0 e1 e2 e3 e4 e5 e6 e7 e8 e9 e10 e11 e12 e13 e14 e15 e16 e17 e18 e19 e20 e21 e22 e23 : Nat} {s0 s1 s2 s3 s4 s5 s6 s7 s8 s9 s10 s11 s12 s13 s14 s15 s16 s17 s18 s19 s20 s21 s22 s23 : Bool} {q0 q1 q2 q3 q4 q5 q6 q7 : Rat} {z0 z1 z2 z3 z4 z5 z6 z7 z8 z9 z10 z11 : Int} {L L0 L1 x y : Nat} {k : Int} {b : Bool} {w : World}
theorem cmp3_is (a b c d e f : Int) : (cmp3 a b c d e f = -1 ∧ (a < d ∨ (a = d ∧ (b < e ∨ (b = e ∧ c < f))))) ∨ (cmp3 a b c d e f = 0 ∧ a = d ∧ b = e ∧ c = f) ∨ (cmp3 a b c d e f = 1 ∧ (d < a ∨ (a = d ∧ (e < b ∨ (b = e ∧ f < c))))) := by
  have sg : ∀ x y : Int, ((x - y).sign = -1 ∧ x < y) ∨ ((x - y).sign = 0 ∧ x = y) ∨ ((x - y).sign = 1 ∧ y < x) := fun x y => by
    rcases Int.lt_trichotomy x y with h | h | h
    · exact .inl ⟨Int.sign_eq_neg_one_of_neg (by omega), h⟩
    · exact .inr (.inl ⟨by rw [h, Int.sub_self]; rfl, h⟩)
    · exact .inr (.inr ⟨Int.sign_eq_one_of_pos (by omega), h⟩)
  unfold cmp3
  split
  · split
    · have := sg c f; omega
    · have := sg b e; omega
  · have := sg a d; omega
theorem cmp3_swap {a b c d e f k : Int} (h : cmp3 a b c d e f = k) : cmp3 d e f a b c = -k := by
  have h1 := cmp3_is a b c d e f
  have h2 := cmp3_is d e f a b c
  omega
theorem cmp3_vals {a b c d e f k : Int} (h : cmp3 a b c d e f = k) : k = 1 ∨ k = 0 ∨ k = -1 := by
  have h1 := cmp3_is a b c d e f
  omega
theorem cmp3_trans {a b c d e f x y z k l m : Int} (h : cmp3 a b c d e f = k) (h' : cmp3 d e f x y z = l) (h2 : cmp3 a b c x y z = m) (hk : k ≤ 0) (hl : l ≤ 0) : m ≤ 0 := by
  have h3 := cmp3_is a b c d e f
  have h4 := cmp3_is d e f x y z
  have h5 := cmp3_is a b c x y z
  omega
theorem cmp3_negs {a b c : Int} (h : VL a b c) : cmp3 (-a) (-b) (-c) a b c = -1 ∨ cmp3 (-a) (-b) (-c) a b c = 1 := by
  have h1 := cmp3_is (-a) (-b) (-c) a b c
  have h2 := h.1
  omega
theorem cmp3_nn {a b c k : Int} (h : cmp3 (-a) (-b) (-c) a b c = k) : cmp3 (- -a) (- -b) (- -c) (-a) (-b) (-c) = -k := by
  have h1 := cmp3_is (-a) (-b) (-c) a b c
  have h2 := cmp3_is (- -a) (- -b) (- -c) (-a) (-b) (-c)
  omega
theorem cmp3_same0 (a b c : Int) : cmp3 a b c (- -a) (- -b) (- -c) = 0 := by
  have h2 := cmp3_is a b c (- -a) (- -b) (- -c)
  omega
theorem gcd3_neg (a b c : Int) : gcd3 (-a) (-b) (-c) = gcd3 a b c := by unfold gcd3; rw [Int.natAbs_neg, Int.natAbs_neg, Int.natAbs_neg]
theorem vl_neg {a b c : Int} (h : VL a b c) : VL (-a) (-b) (-c) := ⟨fun h0 => h.1 ⟨by omega, by omega⟩, by rw [gcd3_neg]; exact h.2⟩
set_option maxRecDepth 100000 in
set_option maxHeartbeats 16000000 in
theorem lineorder_any {v : Value} (HI : Ints w v) :
    Calls Tryz.prog 3 #[v] w fun e w' => e = .returned (.bool true) ∧ Below w.heap.size w w' := by
  go_enter Tryz.func3, Tryz.ntmps3
  go_wp2_with fail
  refine (new_any HI).mono ?_
  rintro e w1 ⟨rfl, hT, H0, hsz⟩
  have hlt : w.heap.size < w1.heap.size := by omega
  clear hsz HI
  go_wp2_with fail
  refine (tl_v hT hlt).mono ?_
  rintro e w2 ⟨z0, z1, z2, s21, A21, n21, c21, s22, A22, n22, c22, s23, A23, n23, c23, rfl, hsl7, g21, g22, g23, hT', hg⟩
  replace hlt := Nat.lt_of_lt_of_le hlt hg.size
  replace H0 := H0.grown hg H0.size (by rintro k hk; injection hk with hk; omega)
  clear hT
  have hT := hT'
  clear hT' hg
  go_wp2_with fail
  refine (gtol_v g21 g22 g23 (by decide)).mono ?_
  rintro e w3 ⟨s18, A18, n18, c18, s19, A19, n19, c19, s20, A20, n20, c20, rfl, g18, g19, g20, hb⟩
  replace g21 := g21.below hb
  replace g22 := g22.below hb
  replace g23 := g23.below hb
  replace hT := hT.keep hb hlt
  replace hlt := Nat.lt_of_lt_of_le hlt hb.size
  replace H0 := H0.trans (hb.mono H0.size)
  clear hb
  go_wp2_with fail
  have V0 := Lib.hid hsl7.1
  clear hsl7
  clear g21
  clear g22
  clear g23
  refine (tl_v hT hlt).mono ?_
  rintro e w4 ⟨z3, z4, z5, s21, A21, n21, c21, s22, A22, n22, c22, s23, A23, n23, c23, rfl, hsl7, g21, g22, g23, hT', hg⟩
  replace g18 := g18.tape hT hg
  replace g19 := g19.tape hT hg
  replace g20 := g20.tape hT hg
  replace hlt := Nat.lt_of_lt_of_le hlt hg.size
  replace H0 := H0.grown hg H0.size (by rintro k hk; injection hk with hk; omega)
  clear hT
  have hT := hT'
  clear hT' hg
  go_wp2_with fail
  refine (gtol_v g21 g22 g23 (by decide)).mono ?_
  rintro e w5 ⟨s15, A15, n15, c15, s16, A16, n16, c16, s17, A17, n17, c17, rfl, g15, g16, g17, hb⟩
  replace g18 := g18.below hb
  replace g19 := g19.below hb
  replace g20 := g20.below hb
  replace g21 := g21.below hb
  replace g22 := g22.below hb
  replace g23 := g23.below hb
  replace hT := hT.keep hb hlt
  replace hlt := Nat.lt_of_lt_of_le hlt hb.size
  replace H0 := H0.trans (hb.mono H0.size)
  clear hb
  go_wp2_with fail
  have V1 := Lib.hid hsl7.1
  clear hsl7
  clear g21
  clear g22
  clear g23
  refine (tl_v hT hlt).mono ?_
  rintro e w6 ⟨z6, z7, z8, s21, A21, n21, c21, s22, A22, n22, c22, s23, A23, n23, c23, rfl, hsl7, g21, g22, g23, hT', hg⟩
  replace g18 := g18.tape hT hg
  replace g19 := g19.tape hT hg
  replace g20 := g20.tape hT hg
  replace g15 := g15.tape hT hg
  replace g16 := g16.tape hT hg
  replace g17 := g17.tape hT hg
  replace hlt := Nat.lt_of_lt_of_le hlt hg.size
  replace H0 := H0.grown hg H0.size (by rintro k hk; injection hk with hk; omega)
  clear hT
  have hT := hT'
  clear hT' hg
  go_wp2_with fail
  refine (gtol_v g21 g22 g23 (by decide)).mono ?_
  rintro e w7 ⟨s12, A12, n12, c12, s13, A13, n13, c13, s14, A14, n14, c14, rfl, g12, g13, g14, hb⟩
  replace g18 := g18.below hb
  replace g19 := g19.below hb
  replace g20 := g20.below hb
  replace g15 := g15.below hb
  replace g16 := g16.below hb
  replace g17 := g17.below hb
  replace g21 := g21.below hb
  replace g22 := g22.below hb
  replace g23 := g23.below hb
  replace hT := hT.keep hb hlt
  replace hlt := Nat.lt_of_lt_of_le hlt hb.size
  replace H0 := H0.trans (hb.mono H0.size)
  clear hb
  have V2 := Lib.hid hsl7.1
  clear hsl7
  clear g21
  clear g22
  clear g23
  clear hT hlt
  obtain ⟨W8, hW, b4, b5, b6, hbW, hszW8⟩ := boxes3 w7 #[.bool s18, .slice A18 n18 c18, .bool s19, .slice A19 n19 c19, .bool s20, .slice A20 n20 c20] #[.bool s15, .slice A15 n15 c15, .bool s16, .slice A16 n16 c16, .bool s17, .slice A17 n17 c17] #[.bool s12, .slice A12 n12 c12, .bool s13, .slice A13 n13 c13, .bool s14, .slice A14 n14 c14] 30 30 30
  skip
  skip
  replace g18 := g18.below hbW
  replace g19 := g19.below hbW
  replace g20 := g20.below hbW
  replace g15 := g15.below hbW
  replace g16 := g16.below hbW
  replace g17 := g17.below hbW
  replace g12 := g12.below hbW
  replace g13 := g13.below hbW
  replace g14 := g14.below hbW
  replace H0 := H0.trans (hbW.mono H0.size)
  clear hbW
  go_wp2_with fail
  clear hW
  clear hszW8
  obtain ⟨ka, hka⟩ : ∃ k, cmp3 z0 z1 z2 z3 z4 z5 = k := ⟨_, rfl⟩
  have Hka := Lib.hid hka
  obtain ⟨kb, hkb⟩ : ∃ k, cmp3 z3 z4 z5 z6 z7 z8 = k := ⟨_, rfl⟩
  have Hkb := Lib.hid hkb
  obtain ⟨kc, hkc⟩ : ∃ k, cmp3 z0 z1 z2 z6 z7 z8 = k := ⟨_, rfl⟩
  have Hkc := Lib.hid hkc
  have hk3 := Lib.hid (cmp3_vals hka)
  have HT3 := Lib.hid (cmp3_trans hka hkb hkc)
  clear hka hkb hkc
  have hD := drawn_below W8
  replace g18 := g18.below hD
  replace g19 := g19.below hD
  replace g20 := g20.below hD
  replace g15 := g15.below hD
  replace g16 := g16.below hD
  replace g17 := g17.below hD
  replace g12 := g12.below hD
  replace g13 := g13.below hD
  replace g14 := g14.below hD
  replace b4 := b4.below hD
  replace b5 := b5.below hD
  replace b6 := b6.below hD
  replace H0 := H0.trans (hD.mono H0.size)
  clear hD
  refine wp_region_noPanic ?_
  refine wp_region_held_drew (S := (fun V => V.cell? ⟨w7.heap.size, 0, none⟩ = some (.bool s18) ∧ V.cell? ⟨w7.heap.size, 1, none⟩ = some (.slice A18 n18 c18) ∧ V.cell? ⟨w7.heap.size, 2, none⟩ = some (.bool s19) ∧ V.cell? ⟨w7.heap.size, 3, none⟩ = some (.slice A19 n19 c19) ∧ V.cell? ⟨w7.heap.size, 4, none⟩ = some (.bool s20) ∧ V.cell? ⟨w7.heap.size, 5, none⟩ = some (.slice A20 n20 c20) ∧ V.cell? ⟨w7.heap.size + 1, 0, none⟩ = some (.bool s15) ∧ V.cell? ⟨w7.heap.size + 1, 1, none⟩ = some (.slice A15 n15 c15) ∧ V.cell? ⟨w7.heap.size + 1, 2, none⟩ = some (.bool s16) ∧ V.cell? ⟨w7.heap.size + 1, 3, none⟩ = some (.slice A16 n16 c16) ∧ V.cell? ⟨w7.heap.size + 1, 4, none⟩ = some (.bool s17) ∧ V.cell? ⟨w7.heap.size + 1, 5, none⟩ = some (.slice A17 n17 c17) ∧ V.cell? ⟨w7.heap.size + 1 + 1, 0, none⟩ = some (.bool s12) ∧ V.cell? ⟨w7.heap.size + 1 + 1, 1, none⟩ = some (.slice A12 n12 c12) ∧ V.cell? ⟨w7.heap.size + 1 + 1, 2, none⟩ = some (.bool s13) ∧ V.cell? ⟨w7.heap.size + 1 + 1, 3, none⟩ = some (.slice A13 n13 c13) ∧ V.cell? ⟨w7.heap.size + 1 + 1, 4, none⟩ = some (.bool s14) ∧ V.cell? ⟨w7.heap.size + 1 + 1, 5, none⟩ = some (.slice A14 n14 c14))) (by kernel_rfl) ⟨b4.cell 0 _ rfl, b4.cell 1 _ rfl, b4.cell 2 _ rfl, b4.cell 3 _ rfl, b4.cell 4 _ rfl, b4.cell 5 _ rfl, b5.cell 0 _ rfl, b5.cell 1 _ rfl, b5.cell 2 _ rfl, b5.cell 3 _ rfl, b5.cell 4 _ rfl, b5.cell 5 _ rfl, b6.cell 0 _ rfl, b6.cell 1 _ rfl, b6.cell 2 _ rfl, b6.cell 3 _ rfl, b6.cell 4 _ rfl, b6.cell 5 _ rfl⟩ (fun hHeld => ?_)
  generalize W8.drew = v9 at H0 hHeld g18 g19 g20 g15 g16 g17 g12 g13 g14 b4 b5 b6 ⊢
  refine wpAnyH_take (i := 0) (v := ?_) rfl (by kernel_rfl) (by kernel_rfl) (by kernel_rfl) (fun _ _ _ h => h) (Or.inl ⟨by rfl, ?_⟩) (by assumption) ?_
  rotate_left
  · (intro w hSw; (try dsimp only at hSw); go_simp; (try with_reducible rfl))
  (try simp only [List.getElem_toArray, List.getElem_cons_zero, Act.put, List.setIfInBounds_toArray, List.set_cons_zero, List.set_cons_succ])
  refine wpAnyH_take (i := 1) (v := ?_) rfl (by kernel_rfl) (by kernel_rfl) (by kernel_rfl) (fun _ _ _ h => h) (Or.inl ⟨by rfl, ?_⟩) (by assumption) ?_
  rotate_left
  · (intro w hSw; (try dsimp only at hSw); go_simp; (try with_reducible rfl))
  (try simp only [List.getElem_toArray, List.getElem_cons_succ, List.getElem_cons_zero, Act.put, List.setIfInBounds_toArray, List.set_cons_zero, List.set_cons_succ])
  refine wpAnyH_take (i := 3) (v := ?_) rfl (by kernel_rfl) (by kernel_rfl) (by kernel_rfl) (fun _ _ _ h => h) (Or.inl ⟨by rfl, ?_⟩) (by assumption) ?_
  rotate_left
  · (intro w hSw; (try dsimp only at hSw); go_simp; (try with_reducible rfl))
  (try simp only [List.getElem_toArray, List.getElem_cons_succ, List.getElem_cons_zero, Act.put, List.setIfInBounds_toArray, List.set_cons_zero, List.set_cons_succ])
  refine wpAnyH_take (i := 4) (v := ?_) rfl (by kernel_rfl) (by kernel_rfl) (by kernel_rfl) (fun _ _ _ h => h) (Or.inl ⟨by rfl, ?_⟩) (by assumption) ?_
  rotate_left
  · (intro w hSw; (try dsimp only at hSw); go_simp; (try with_reducible rfl))
  (try simp only [List.getElem_toArray, List.getElem_cons_succ, List.getElem_cons_zero, Act.put, List.setIfInBounds_toArray, List.set_cons_zero, List.set_cons_succ])
  refine wpAnyH_take (i := 6) (v := ?_) rfl (by kernel_rfl) (by kernel_rfl) (by kernel_rfl) (fun _ _ _ h => h) (Or.inl ⟨by rfl, ?_⟩) (by assumption) ?_
  rotate_left
  · (intro w hSw; (try dsimp only at hSw); go_simp; (try with_reducible rfl))
  (try simp only [List.getElem_toArray, List.getElem_cons_succ, List.getElem_cons_zero, Act.put, List.setIfInBounds_toArray, List.set_cons_zero, List.set_cons_succ])
  refine wpAnyH_take (i := 7) (v := ?_) rfl (by kernel_rfl) (by kernel_rfl) (by kernel_rfl) (fun _ _ _ h => h) (Or.inl ⟨by rfl, ?_⟩) (by assumption) ?_
  rotate_left
  · (intro w hSw; (try dsimp only at hSw); go_simp; (try with_reducible rfl))
  (try simp only [List.getElem_toArray, List.getElem_cons_succ, List.getElem_cons_zero, Act.put, List.setIfInBounds_toArray, List.set_cons_zero, List.set_cons_succ])
  refine wpAnyH_ready (rs := [2]) (by kernel_rfl) (by simp) (AllReadyH.cons (o := _) rfl (fun K hK => ?_) AllReadyH.nil)
  go_simp
  go_at_call 7
  refine (lcompare_v g18 g19 g20 V0.out g15 g16 g17 V1.out Hka.out (by decide)).mono ?_
  rintro e w10 ⟨rfl, hb⟩
  replace g18 := g18.below hb
  replace g19 := g19.below hb
  replace g20 := g20.below hb
  replace g15 := g15.below hb
  replace g16 := g16.below hb
  replace g17 := g17.below hb
  replace g12 := g12.below hb
  replace g13 := g13.below hb
  replace g14 := g14.below hb
  replace b4 := b4.below hb
  replace b5 := b5.below hb
  replace b6 := b6.below hb
  replace H0 := H0.trans (hb.mono H0.size)
  clear hb
  go_wp2_with fail
  refine hK.out _ _ ⟨b4.cell 0 _ rfl, b4.cell 1 _ rfl, b4.cell 2 _ rfl, b4.cell 3 _ rfl, b4.cell 4 _ rfl, b4.cell 5 _ rfl, b5.cell 0 _ rfl, b5.cell 1 _ rfl, b5.cell 2 _ rfl, b5.cell 3 _ rfl, b5.cell 4 _ rfl, b5.cell 5 _ rfl, b6.cell 0 _ rfl, b6.cell 1 _ rfl, b6.cell 2 _ rfl, b6.cell 3 _ rfl, b6.cell 4 _ rfl, b6.cell 5 _ rfl⟩ (fun hHeld => ?_)
  clear hK K
  (try simp only [List.getElem_toArray, List.getElem_cons_succ, List.getElem_cons_zero, Act.put, List.setIfInBounds_toArray, List.set_cons_zero, List.set_cons_succ])
  refine wpAnyH_ready (rs := [5]) (by kernel_rfl) (by simp) (AllReadyH.cons (o := _) rfl (fun K hK => ?_) AllReadyH.nil)
  go_simp
  go_at_call 7
  refine (lcompare_v g15 g16 g17 V1.out g12 g13 g14 V2.out Hkb.out (by decide)).mono ?_
  rintro e w11 ⟨rfl, hb⟩
  replace g18 := g18.below hb
  replace g19 := g19.below hb
  replace g20 := g20.below hb
  replace g15 := g15.below hb
  replace g16 := g16.below hb
  replace g17 := g17.below hb
  replace g12 := g12.below hb
  replace g13 := g13.below hb
  replace g14 := g14.below hb
  replace b4 := b4.below hb
  replace b5 := b5.below hb
  replace b6 := b6.below hb
  replace H0 := H0.trans (hb.mono H0.size)
  clear hb
  go_wp2_with fail
  refine hK.out _ _ ⟨b4.cell 0 _ rfl, b4.cell 1 _ rfl, b4.cell 2 _ rfl, b4.cell 3 _ rfl, b4.cell 4 _ rfl, b4.cell 5 _ rfl, b5.cell 0 _ rfl, b5.cell 1 _ rfl, b5.cell 2 _ rfl, b5.cell 3 _ rfl, b5.cell 4 _ rfl, b5.cell 5 _ rfl, b6.cell 0 _ rfl, b6.cell 1 _ rfl, b6.cell 2 _ rfl, b6.cell 3 _ rfl, b6.cell 4 _ rfl, b6.cell 5 _ rfl⟩ (fun hHeld => ?_)
  clear hK K
  (try simp only [List.getElem_toArray, List.getElem_cons_succ, List.getElem_cons_zero, Act.put, List.setIfInBounds_toArray, List.set_cons_zero, List.set_cons_succ])
  refine wpAnyH_ready (rs := [8]) (by kernel_rfl) (by simp) (AllReadyH.cons (o := _) rfl (fun K hK => ?_) AllReadyH.nil)
  go_simp
  go_at_call 7
  refine (lcompare_v g18 g19 g20 V0.out g12 g13 g14 V2.out Hkc.out (by decide)).mono ?_
  rintro e w12 ⟨rfl, hb⟩
  replace g18 := g18.below hb
  replace g19 := g19.below hb
  replace g20 := g20.below hb
  replace g15 := g15.below hb
  replace g16 := g16.below hb
  replace g17 := g17.below hb
  replace g12 := g12.below hb
  replace g13 := g13.below hb
  replace g14 := g14.below hb
  replace b4 := b4.below hb
  replace b5 := b5.below hb
  replace b6 := b6.below hb
  replace H0 := H0.trans (hb.mono H0.size)
  clear hb
  go_wp2_with fail
  refine hK.out _ _ ⟨b4.cell 0 _ rfl, b4.cell 1 _ rfl, b4.cell 2 _ rfl, b4.cell 3 _ rfl, b4.cell 4 _ rfl, b4.cell 5 _ rfl, b5.cell 0 _ rfl, b5.cell 1 _ rfl, b5.cell 2 _ rfl, b5.cell 3 _ rfl, b5.cell 4 _ rfl, b5.cell 5 _ rfl, b6.cell 0 _ rfl, b6.cell 1 _ rfl, b6.cell 2 _ rfl, b6.cell 3 _ rfl, b6.cell 4 _ rfl, b6.cell 5 _ rfl⟩ (fun hHeld => ?_)
  clear hK K
  (try simp only [List.getElem_toArray, List.getElem_cons_succ, List.getElem_cons_zero, Act.put, List.setIfInBounds_toArray, List.set_cons_zero, List.set_cons_succ])
  refine wpAnyH_take (i := 9) (v := ?_) rfl (by kernel_rfl) (by kernel_rfl) (by kernel_rfl) (fun _ _ _ h => h) (Or.inl ⟨by rfl, ?_⟩) (by assumption) ?_
  rotate_left
  · (intro w hSw; (try dsimp only at hSw); go_simp; (try with_reducible rfl))
  (try simp only [List.getElem_toArray, List.getElem_cons_succ, List.getElem_cons_zero, Act.put, List.setIfInBounds_toArray, List.set_cons_zero, List.set_cons_succ])
  refine wpAnyH_take (i := 10) (v := ?_) rfl (by kernel_rfl) (by kernel_rfl) (by kernel_rfl) (fun _ _ _ h => h) (Or.inl ⟨by rfl, ?_⟩) (by assumption) ?_
  rotate_left
  · (intro w hSw; (try dsimp only at hSw); go_simp; (try with_reducible rfl))
  (try simp only [List.getElem_toArray, List.getElem_cons_succ, List.getElem_cons_zero, Act.put, List.setIfInBounds_toArray, List.set_cons_zero, List.set_cons_succ])
  refine wpAnyH_take (i := 11) (v := ?_) rfl (by kernel_rfl) (by kernel_rfl) (by kernel_rfl) (fun _ _ _ h => h) (Or.inl ⟨by rfl, ?_⟩) (by assumption) ?_
  rotate_left
  · (intro w hSw; (try dsimp only at hSw); go_simp; (try with_reducible rfl))
  (try simp only [List.getElem_toArray, List.getElem_cons_succ, List.getElem_cons_zero, Act.put, List.setIfInBounds_toArray, List.set_cons_zero, List.set_cons_succ])
  refine wpAnyH_done (by kernel_rfl) ?_ _
  refine NoPanic.normal ?_
  rcases cmp3_negs V0.out with hn | hn
  · have HN := Lib.hid hn
    have HN2 : Hid (cmp3 (- -z0) (- -z1) (- -z2) (-z0) (-z1) (-z2) = 1) := Lib.hid (cmp3_nn hn)
    clear hn
    have V3 := Lib.hid (vl_neg V0.out)
    have cb40 := b4.cell 0 _ rfl
    have cb41 := b4.cell 1 _ rfl
    have cb42 := b4.cell 2 _ rfl
    have cb43 := b4.cell 3 _ rfl
    have cb44 := b4.cell 4 _ rfl
    have cb45 := b4.cell 5 _ rfl
    go_wp2_with fail
    clear cb40 cb41 cb42 cb43 cb44 cb45
    refine (lcanon_lt g18 g19 g20 V0.out HN.out (by decide)).mono ?_
    rintro e w13 ⟨s9, A9, n9, c9, s10, A10, n10, c10, s11, A11, n11, c11, rfl, g9, g10, g11, hb⟩
    replace g18 := g18.below hb
    replace g19 := g19.below hb
    replace g20 := g20.below hb
    replace g15 := g15.below hb
    replace g16 := g16.below hb
    replace g17 := g17.below hb
    replace g12 := g12.below hb
    replace g13 := g13.below hb
    replace g14 := g14.below hb
    replace b4 := b4.below hb
    replace b5 := b5.below hb
    replace b6 := b6.below hb
    replace H0 := H0.trans (hb.mono H0.size)
    clear hb
    have lb4_14 := b4.lt
    have lb5_14 := b5.lt
    have lb6_14 := b6.lt
    obtain ⟨W14, hW, b7, hbW, hszW14⟩ := boxes1 w13 #[.bool s9, .slice A9 n9 c9, .bool s10, .slice A10 n10 c10, .bool s11, .slice A11 n11 c11] 30
    skip
    skip
    replace g18 := g18.below hbW
    replace g19 := g19.below hbW
    replace g20 := g20.below hbW
    replace g15 := g15.below hbW
    replace g16 := g16.below hbW
    replace g17 := g17.below hbW
    replace g12 := g12.below hbW
    replace g13 := g13.below hbW
    replace g14 := g14.below hbW
    replace g9 := g9.below hbW
    replace g10 := g10.below hbW
    replace g11 := g11.below hbW
    replace b4 := b4.below hbW
    replace b5 := b5.below hbW
    replace b6 := b6.below hbW
    replace H0 := H0.trans (hbW.mono H0.size)
    clear hbW
    have cb40 := b4.cell 0 _ rfl
    have cb41 := b4.cell 1 _ rfl
    have cb42 := b4.cell 2 _ rfl
    have cb43 := b4.cell 3 _ rfl
    have cb44 := b4.cell 4 _ rfl
    have cb45 := b4.cell 5 _ rfl
    go_wp2_with fail
    clear hW
    clear cb40 cb41 cb42 cb43 cb44 cb45
    refine (lreverse_v g18 g19 g20 V0.out (by decide)).mono ?_
    rintro e w15 ⟨s6, A6, n6, c6, s7, A7, n7, c7, s8, A8, n8, c8, rfl, g6, g7, g8, hb⟩
    replace g18 := g18.below hb
    replace g19 := g19.below hb
    replace g20 := g20.below hb
    replace g15 := g15.below hb
    replace g16 := g16.below hb
    replace g17 := g17.below hb
    replace g12 := g12.below hb
    replace g13 := g13.below hb
    replace g14 := g14.below hb
    replace g9 := g9.below hb
    replace g10 := g10.below hb
    replace g11 := g11.below hb
    replace b4 := b4.below hb
    replace b5 := b5.below hb
    replace b6 := b6.below hb
    replace b7 := b7.below hb
    replace H0 := H0.trans (hb.mono H0.size)
    clear hb
    go_wp2_with fail
    refine (lcanon_ge g6 g7 g8 V3.out HN2.out (by decide)).mono ?_
    rintro e w16 ⟨s3, A3, n3, c3, s4, A4, n4, c4, s5, A5, n5, c5, rfl, g3, g4, g5, hb⟩
    replace g18 := g18.below hb
    replace g19 := g19.below hb
    replace g20 := g20.below hb
    replace g15 := g15.below hb
    replace g16 := g16.below hb
    replace g17 := g17.below hb
    replace g12 := g12.below hb
    replace g13 := g13.below hb
    replace g14 := g14.below hb
    replace g9 := g9.below hb
    replace g10 := g10.below hb
    replace g11 := g11.below hb
    replace g6 := g6.below hb
    replace g7 := g7.below hb
    replace g8 := g8.below hb
    replace b4 := b4.below hb
    replace b5 := b5.below hb
    replace b6 := b6.below hb
    replace b7 := b7.below hb
    replace H0 := H0.trans (hb.mono H0.size)
    clear hb
    clear g6
    clear g7
    clear g8
    have lb4_17 := b4.lt
    have lb5_17 := b5.lt
    have lb6_17 := b6.lt
    have lb7_17 := b7.lt
    obtain ⟨W17, hW, b8, hbW, hszW17⟩ := boxes1 w16 #[.bool s3, .slice A3 n3 c3, .bool s4, .slice A4 n4 c4, .bool s5, .slice A5 n5 c5] 30
    skip
    skip
    replace g18 := g18.below hbW
    replace g19 := g19.below hbW
    replace g20 := g20.below hbW
    replace g15 := g15.below hbW
    replace g16 := g16.below hbW
    replace g17 := g17.below hbW
    replace g12 := g12.below hbW
    replace g13 := g13.below hbW
    replace g14 := g14.below hbW
    replace g9 := g9.below hbW
    replace g10 := g10.below hbW
    replace g11 := g11.below hbW
    replace g3 := g3.below hbW
    replace g4 := g4.below hbW
    replace g5 := g5.below hbW
    replace b4 := b4.below hbW
    replace b5 := b5.below hbW
    replace b6 := b6.below hbW
    replace b7 := b7.below hbW
    replace H0 := H0.trans (hbW.mono H0.size)
    clear hbW
    go_wp2_with fail
    clear hW
    refine (known5_any).mono ?_
    rintro e w18 ⟨rfl, hb⟩
    replace g18 := g18.below hb
    replace g19 := g19.below hb
    replace g20 := g20.below hb
    replace g15 := g15.below hb
    replace g16 := g16.below hb
    replace g17 := g17.below hb
    replace g12 := g12.below hb
    replace g13 := g13.below hb
    replace g14 := g14.below hb
    replace g9 := g9.below hb
    replace g10 := g10.below hb
    replace g11 := g11.below hb
    replace g3 := g3.below hb
    replace g4 := g4.below hb
    replace g5 := g5.below hb
    replace b4 := b4.below hb
    replace b5 := b5.below hb
    replace b6 := b6.below hb
    replace b7 := b7.below hb
    replace b8 := b8.below hb
    replace H0 := H0.trans (hb.mono H0.size)
    clear hb
    have cb40 := b4.cell 0 _ rfl
    have cb41 := b4.cell 1 _ rfl
    have cb42 := b4.cell 2 _ rfl
    have cb43 := b4.cell 3 _ rfl
    have cb44 := b4.cell 4 _ rfl
    have cb45 := b4.cell 5 _ rfl
    have cb50 := b5.cell 0 _ rfl
    have cb51 := b5.cell 1 _ rfl
    have cb52 := b5.cell 2 _ rfl
    have cb53 := b5.cell 3 _ rfl
    have cb54 := b5.cell 4 _ rfl
    have cb55 := b5.cell 5 _ rfl
    have cb70 := b7.cell 0 _ rfl
    have cb71 := b7.cell 1 _ rfl
    have cb72 := b7.cell 2 _ rfl
    have cb73 := b7.cell 3 _ rfl
    have cb74 := b7.cell 4 _ rfl
    have cb75 := b7.cell 5 _ rfl
    have cb80 := b8.cell 0 _ rfl
    have cb81 := b8.cell 1 _ rfl
    have cb82 := b8.cell 2 _ rfl
    have cb83 := b8.cell 3 _ rfl
    have cb84 := b8.cell 4 _ rfl
    have cb85 := b8.cell 5 _ rfl
    clear cb40 cb41 cb42 cb43 cb44 cb45 cb50 cb51 cb52 cb53 cb54 cb55 cb70 cb71 cb72 cb73 cb74 cb75 cb80 cb81 cb82 cb83 cb84 cb85
    rcases hk3.out with rfl | rfl | rfl
    · clear hk3
      clear HT3
      have cb40 := b4.cell 0 _ rfl
      have cb41 := b4.cell 1 _ rfl
      have cb42 := b4.cell 2 _ rfl
      have cb43 := b4.cell 3 _ rfl
      have cb44 := b4.cell 4 _ rfl
      have cb45 := b4.cell 5 _ rfl
      have cb50 := b5.cell 0 _ rfl
      have cb51 := b5.cell 1 _ rfl
      have cb52 := b5.cell 2 _ rfl
      have cb53 := b5.cell 3 _ rfl
      have cb54 := b5.cell 4 _ rfl
      have cb55 := b5.cell 5 _ rfl
      have cb70 := b7.cell 0 _ rfl
      have cb71 := b7.cell 1 _ rfl
      have cb72 := b7.cell 2 _ rfl
      have cb73 := b7.cell 3 _ rfl
      have cb74 := b7.cell 4 _ rfl
      have cb75 := b7.cell 5 _ rfl
      have cb80 := b8.cell 0 _ rfl
      have cb81 := b8.cell 1 _ rfl
      have cb82 := b8.cell 2 _ rfl
      have cb83 := b8.cell 3 _ rfl
      have cb84 := b8.cell 4 _ rfl
      have cb85 := b8.cell 5 _ rfl
      go_wp2_with fail
      clear cb40 cb41 cb42 cb43 cb44 cb45 cb50 cb51 cb52 cb53 cb54 cb55 cb70 cb71 cb72 cb73 cb74 cb75 cb80 cb81 cb82 cb83 cb84 cb85
      refine (lcompare_v g15 g16 g17 V1.out g18 g19 g20 V0.out (cmp3_swap Hka.out) (by decide)).mono ?_
      rintro e w19 ⟨rfl, hb⟩
      replace g18 := g18.below hb
      replace g19 := g19.below hb
      replace g20 := g20.below hb
      replace g15 := g15.below hb
      replace g16 := g16.below hb
      replace g17 := g17.below hb
      replace g12 := g12.below hb
      replace g13 := g13.below hb
      replace g14 := g14.below hb
      replace g9 := g9.below hb
      replace g10 := g10.below hb
      replace g11 := g11.below hb
      replace g3 := g3.below hb
      replace g4 := g4.below hb
      replace g5 := g5.below hb
      replace b4 := b4.below hb
      replace b5 := b5.below hb
      replace b6 := b6.below hb
      replace b7 := b7.below hb
      replace b8 := b8.below hb
      replace H0 := H0.trans (hb.mono H0.size)
      clear hb
      have cb40 := b4.cell 0 _ rfl
      have cb41 := b4.cell 1 _ rfl
      have cb42 := b4.cell 2 _ rfl
      have cb43 := b4.cell 3 _ rfl
      have cb44 := b4.cell 4 _ rfl
      have cb45 := b4.cell 5 _ rfl
      have cb50 := b5.cell 0 _ rfl
      have cb51 := b5.cell 1 _ rfl
      have cb52 := b5.cell 2 _ rfl
      have cb53 := b5.cell 3 _ rfl
      have cb54 := b5.cell 4 _ rfl
      have cb55 := b5.cell 5 _ rfl
      have cb70 := b7.cell 0 _ rfl
      have cb71 := b7.cell 1 _ rfl
      have cb72 := b7.cell 2 _ rfl
      have cb73 := b7.cell 3 _ rfl
      have cb74 := b7.cell 4 _ rfl
      have cb75 := b7.cell 5 _ rfl
      have cb80 := b8.cell 0 _ rfl
      have cb81 := b8.cell 1 _ rfl
      have cb82 := b8.cell 2 _ rfl
      have cb83 := b8.cell 3 _ rfl
      have cb84 := b8.cell 4 _ rfl
      have cb85 := b8.cell 5 _ rfl
      go_wp2_with fail
      have V4 := Lib.hid (vl_neg V3.out)
      clear cb40 cb41 cb42 cb43 cb44 cb45 cb50 cb51 cb52 cb53 cb54 cb55 cb70 cb71 cb72 cb73 cb74 cb75 cb80 cb81 cb82 cb83 cb84 cb85
      refine (lsame_v g9 g10 g11 V0.out g3 g4 g5 V4.out (cmp3_same0 z0 z1 z2) (by decide)).mono ?_
      rintro e w20 ⟨rfl, hb⟩
      replace g18 := g18.below hb
      replace g19 := g19.below hb
      replace g20 := g20.below hb
      replace g15 := g15.below hb
      replace g16 := g16.below hb
      replace g17 := g17.below hb
      replace g12 := g12.below hb
      replace g13 := g13.below hb
      replace g14 := g14.below hb
      replace g9 := g9.below hb
      replace g10 := g10.below hb
      replace g11 := g11.below hb
      replace g3 := g3.below hb
      replace g4 := g4.below hb
      replace g5 := g5.below hb
      replace b4 := b4.below hb
      replace b5 := b5.below hb
      replace b6 := b6.below hb
      replace b7 := b7.below hb
      replace b8 := b8.below hb
      replace H0 := H0.trans (hb.mono H0.size)
      clear hb
      go_wp2_with fail
      go_returns
      exact ⟨rfl, H0⟩
    · clear hk3
      by_cases hb0 : kb ≤ 0
      · have eb : decide (kb ≤ 0) = true := decide_eq_true hb0
        have ec : decide (0 < kc) = false := by have := HT3.out (by omega) hb0; rw [decide_eq_false_iff_not]; omega
        clear HT3 hb0
        have cb40 := b4.cell 0 _ rfl
        have cb41 := b4.cell 1 _ rfl
        have cb42 := b4.cell 2 _ rfl
        have cb43 := b4.cell 3 _ rfl
        have cb44 := b4.cell 4 _ rfl
        have cb45 := b4.cell 5 _ rfl
        have cb50 := b5.cell 0 _ rfl
        have cb51 := b5.cell 1 _ rfl
        have cb52 := b5.cell 2 _ rfl
        have cb53 := b5.cell 3 _ rfl
        have cb54 := b5.cell 4 _ rfl
        have cb55 := b5.cell 5 _ rfl
        have cb70 := b7.cell 0 _ rfl
        have cb71 := b7.cell 1 _ rfl
        have cb72 := b7.cell 2 _ rfl
        have cb73 := b7.cell 3 _ rfl
        have cb74 := b7.cell 4 _ rfl
        have cb75 := b7.cell 5 _ rfl
        have cb80 := b8.cell 0 _ rfl
        have cb81 := b8.cell 1 _ rfl
        have cb82 := b8.cell 2 _ rfl
        have cb83 := b8.cell 3 _ rfl
        have cb84 := b8.cell 4 _ rfl
        have cb85 := b8.cell 5 _ rfl
        go_wp2_with fail
        clear cb40 cb41 cb42 cb43 cb44 cb45 cb50 cb51 cb52 cb53 cb54 cb55 cb70 cb71 cb72 cb73 cb74 cb75 cb80 cb81 cb82 cb83 cb84 cb85
        refine (lcompare_v g15 g16 g17 V1.out g18 g19 g20 V0.out (cmp3_swap Hka.out) (by decide)).mono ?_
        rintro e w19 ⟨rfl, hb⟩
        replace g18 := g18.below hb
        replace g19 := g19.below hb
        replace g20 := g20.below hb
        replace g15 := g15.below hb
        replace g16 := g16.below hb
        replace g17 := g17.below hb
        replace g12 := g12.below hb
        replace g13 := g13.below hb
        replace g14 := g14.below hb
        replace g9 := g9.below hb
        replace g10 := g10.below hb
        replace g11 := g11.below hb
        replace g3 := g3.below hb
        replace g4 := g4.below hb
        replace g5 := g5.below hb
        replace b4 := b4.below hb
        replace b5 := b5.below hb
        replace b6 := b6.below hb
        replace b7 := b7.below hb
        replace b8 := b8.below hb
        replace H0 := H0.trans (hb.mono H0.size)
        clear hb
        have cb40 := b4.cell 0 _ rfl
        have cb41 := b4.cell 1 _ rfl
        have cb42 := b4.cell 2 _ rfl
        have cb43 := b4.cell 3 _ rfl
        have cb44 := b4.cell 4 _ rfl
        have cb45 := b4.cell 5 _ rfl
        have cb50 := b5.cell 0 _ rfl
        have cb51 := b5.cell 1 _ rfl
        have cb52 := b5.cell 2 _ rfl
        have cb53 := b5.cell 3 _ rfl
        have cb54 := b5.cell 4 _ rfl
        have cb55 := b5.cell 5 _ rfl
        have cb70 := b7.cell 0 _ rfl
        have cb71 := b7.cell 1 _ rfl
        have cb72 := b7.cell 2 _ rfl
        have cb73 := b7.cell 3 _ rfl
        have cb74 := b7.cell 4 _ rfl
        have cb75 := b7.cell 5 _ rfl
        have cb80 := b8.cell 0 _ rfl
        have cb81 := b8.cell 1 _ rfl
        have cb82 := b8.cell 2 _ rfl
        have cb83 := b8.cell 3 _ rfl
        have cb84 := b8.cell 4 _ rfl
        have cb85 := b8.cell 5 _ rfl
        go_wp2_with fail
        clear cb40 cb41 cb42 cb43 cb44 cb45 cb50 cb51 cb52 cb53 cb54 cb55 cb70 cb71 cb72 cb73 cb74 cb75 cb80 cb81 cb82 cb83 cb84 cb85
        refine (lsame_v g18 g19 g20 V0.out g15 g16 g17 V1.out Hka.out (by decide)).mono ?_
        rintro e w20 ⟨rfl, hb⟩
        replace g18 := g18.below hb
        replace g19 := g19.below hb
        replace g20 := g20.below hb
        replace g15 := g15.below hb
        replace g16 := g16.below hb
        replace g17 := g17.below hb
        replace g12 := g12.below hb
        replace g13 := g13.below hb
        replace g14 := g14.below hb
        replace g9 := g9.below hb
        replace g10 := g10.below hb
        replace g11 := g11.below hb
        replace g3 := g3.below hb
        replace g4 := g4.below hb
        replace g5 := g5.below hb
        replace b4 := b4.below hb
        replace b5 := b5.below hb
        replace b6 := b6.below hb
        replace b7 := b7.below hb
        replace b8 := b8.below hb
        replace H0 := H0.trans (hb.mono H0.size)
        clear hb
        have cb70 := b7.cell 0 _ rfl
        have cb71 := b7.cell 1 _ rfl
        have cb72 := b7.cell 2 _ rfl
        have cb73 := b7.cell 3 _ rfl
        have cb74 := b7.cell 4 _ rfl
        have cb75 := b7.cell 5 _ rfl
        have cb80 := b8.cell 0 _ rfl
        have cb81 := b8.cell 1 _ rfl
        have cb82 := b8.cell 2 _ rfl
        have cb83 := b8.cell 3 _ rfl
        have cb84 := b8.cell 4 _ rfl
        have cb85 := b8.cell 5 _ rfl
        go_wp2_with fail
        have V4 := Lib.hid (vl_neg V3.out)
        clear cb70 cb71 cb72 cb73 cb74 cb75 cb80 cb81 cb82 cb83 cb84 cb85
        refine (lsame_v g9 g10 g11 V0.out g3 g4 g5 V4.out (cmp3_same0 z0 z1 z2) (by decide)).mono ?_
        rintro e w21 ⟨rfl, hb⟩
        replace g18 := g18.below hb
        replace g19 := g19.below hb
        replace g20 := g20.below hb
        replace g15 := g15.below hb
        replace g16 := g16.below hb
        replace g17 := g17.below hb
        replace g12 := g12.below hb
        replace g13 := g13.below hb
        replace g14 := g14.below hb
        replace g9 := g9.below hb
        replace g10 := g10.below hb
        replace g11 := g11.below hb
        replace g3 := g3.below hb
        replace g4 := g4.below hb
        replace g5 := g5.below hb
        replace b4 := b4.below hb
        replace b5 := b5.below hb
        replace b6 := b6.below hb
        replace b7 := b7.below hb
        replace b8 := b8.below hb
        replace H0 := H0.trans (hb.mono H0.size)
        clear hb
        go_wp2_with fail
        go_returns
        exact ⟨rfl, H0⟩
      · have eb : decide (kb ≤ 0) = false := decide_eq_false hb0
        clear HT3 hb0
        have cb40 := b4.cell 0 _ rfl
        have cb41 := b4.cell 1 _ rfl
        have cb42 := b4.cell 2 _ rfl
        have cb43 := b4.cell 3 _ rfl
        have cb44 := b4.cell 4 _ rfl
        have cb45 := b4.cell 5 _ rfl
        have cb50 := b5.cell 0 _ rfl
        have cb51 := b5.cell 1 _ rfl
        have cb52 := b5.cell 2 _ rfl
        have cb53 := b5.cell 3 _ rfl
        have cb54 := b5.cell 4 _ rfl
        have cb55 := b5.cell 5 _ rfl
        have cb70 := b7.cell 0 _ rfl
        have cb71 := b7.cell 1 _ rfl
        have cb72 := b7.cell 2 _ rfl
        have cb73 := b7.cell 3 _ rfl
        have cb74 := b7.cell 4 _ rfl
        have cb75 := b7.cell 5 _ rfl
        have cb80 := b8.cell 0 _ rfl
        have cb81 := b8.cell 1 _ rfl
        have cb82 := b8.cell 2 _ rfl
        have cb83 := b8.cell 3 _ rfl
        have cb84 := b8.cell 4 _ rfl
        have cb85 := b8.cell 5 _ rfl
        go_wp2_with fail
        clear cb40 cb41 cb42 cb43 cb44 cb45 cb50 cb51 cb52 cb53 cb54 cb55 cb70 cb71 cb72 cb73 cb74 cb75 cb80 cb81 cb82 cb83 cb84 cb85
        refine (lcompare_v g15 g16 g17 V1.out g18 g19 g20 V0.out (cmp3_swap Hka.out) (by decide)).mono ?_
        rintro e w19 ⟨rfl, hb⟩
        replace g18 := g18.below hb
        replace g19 := g19.below hb
        replace g20 := g20.below hb
        replace g15 := g15.below hb
        replace g16 := g16.below hb
        replace g17 := g17.below hb
        replace g12 := g12.below hb
        replace g13 := g13.below hb
        replace g14 := g14.below hb
        replace g9 := g9.below hb
        replace g10 := g10.below hb
        replace g11 := g11.below hb
        replace g3 := g3.below hb
        replace g4 := g4.below hb
        replace g5 := g5.below hb
        replace b4 := b4.below hb
        replace b5 := b5.below hb
        replace b6 := b6.below hb
        replace b7 := b7.below hb
        replace b8 := b8.below hb
        replace H0 := H0.trans (hb.mono H0.size)
        clear hb
        have cb40 := b4.cell 0 _ rfl
        have cb41 := b4.cell 1 _ rfl
        have cb42 := b4.cell 2 _ rfl
        have cb43 := b4.cell 3 _ rfl
        have cb44 := b4.cell 4 _ rfl
        have cb45 := b4.cell 5 _ rfl
        have cb50 := b5.cell 0 _ rfl
        have cb51 := b5.cell 1 _ rfl
        have cb52 := b5.cell 2 _ rfl
        have cb53 := b5.cell 3 _ rfl
        have cb54 := b5.cell 4 _ rfl
        have cb55 := b5.cell 5 _ rfl
        have cb70 := b7.cell 0 _ rfl
        have cb71 := b7.cell 1 _ rfl
        have cb72 := b7.cell 2 _ rfl
        have cb73 := b7.cell 3 _ rfl
        have cb74 := b7.cell 4 _ rfl
        have cb75 := b7.cell 5 _ rfl
        have cb80 := b8.cell 0 _ rfl
        have cb81 := b8.cell 1 _ rfl
        have cb82 := b8.cell 2 _ rfl
        have cb83 := b8.cell 3 _ rfl
        have cb84 := b8.cell 4 _ rfl
        have cb85 := b8.cell 5 _ rfl
        go_wp2_with fail
        clear cb40 cb41 cb42 cb43 cb44 cb45 cb50 cb51 cb52 cb53 cb54 cb55 cb70 cb71 cb72 cb73 cb74 cb75 cb80 cb81 cb82 cb83 cb84 cb85
        refine (lsame_v g18 g19 g20 V0.out g15 g16 g17 V1.out Hka.out (by decide)).mono ?_
        rintro e w20 ⟨rfl, hb⟩
        replace g18 := g18.below hb
        replace g19 := g19.below hb
        replace g20 := g20.below hb
        replace g15 := g15.below hb
        replace g16 := g16.below hb
        replace g17 := g17.below hb
        replace g12 := g12.below hb
        replace g13 := g13.below hb
        replace g14 := g14.below hb
        replace g9 := g9.below hb
        replace g10 := g10.below hb
        replace g11 := g11.below hb
        replace g3 := g3.below hb
        replace g4 := g4.below hb
        replace g5 := g5.below hb
        replace b4 := b4.below hb
        replace b5 := b5.below hb
        replace b6 := b6.below hb
        replace b7 := b7.below hb
        replace b8 := b8.below hb
        replace H0 := H0.trans (hb.mono H0.size)
        clear hb
        have cb70 := b7.cell 0 _ rfl
        have cb71 := b7.cell 1 _ rfl
        have cb72 := b7.cell 2 _ rfl
        have cb73 := b7.cell 3 _ rfl
        have cb74 := b7.cell 4 _ rfl
        have cb75 := b7.cell 5 _ rfl
        have cb80 := b8.cell 0 _ rfl
        have cb81 := b8.cell 1 _ rfl
        have cb82 := b8.cell 2 _ rfl
        have cb83 := b8.cell 3 _ rfl
        have cb84 := b8.cell 4 _ rfl
        have cb85 := b8.cell 5 _ rfl
        go_wp2_with fail
        have V4 := Lib.hid (vl_neg V3.out)
        clear cb70 cb71 cb72 cb73 cb74 cb75 cb80 cb81 cb82 cb83 cb84 cb85
        refine (lsame_v g9 g10 g11 V0.out g3 g4 g5 V4.out (cmp3_same0 z0 z1 z2) (by decide)).mono ?_
        rintro e w21 ⟨rfl, hb⟩
        replace g18 := g18.below hb
        replace g19 := g19.below hb
        replace g20 := g20.below hb
        replace g15 := g15.below hb
        replace g16 := g16.below hb
        replace g17 := g17.below hb
        replace g12 := g12.below hb
        replace g13 := g13.below hb
        replace g14 := g14.below hb
        replace g9 := g9.below hb
        replace g10 := g10.below hb
        replace g11 := g11.below hb
        replace g3 := g3.below hb
        replace g4 := g4.below hb
        replace g5 := g5.below hb
        replace b4 := b4.below hb
        replace b5 := b5.below hb
        replace b6 := b6.below hb
        replace b7 := b7.below hb
        replace b8 := b8.below hb
        replace H0 := H0.trans (hb.mono H0.size)
        clear hb
        go_wp2_with fail
        go_returns
        exact ⟨rfl, H0⟩
    · clear hk3
      by_cases hb0 : kb ≤ 0
      · have eb : decide (kb ≤ 0) = true := decide_eq_true hb0
        have ec : decide (0 < kc) = false := by have := HT3.out (by omega) hb0; rw [decide_eq_false_iff_not]; omega
        clear HT3 hb0
        have cb40 := b4.cell 0 _ rfl
        have cb41 := b4.cell 1 _ rfl
        have cb42 := b4.cell 2 _ rfl
        have cb43 := b4.cell 3 _ rfl
        have cb44 := b4.cell 4 _ rfl
        have cb45 := b4.cell 5 _ rfl
        have cb50 := b5.cell 0 _ rfl
        have cb51 := b5.cell 1 _ rfl
        have cb52 := b5.cell 2 _ rfl
        have cb53 := b5.cell 3 _ rfl
        have cb54 := b5.cell 4 _ rfl
        have cb55 := b5.cell 5 _ rfl
        have cb70 := b7.cell 0 _ rfl
        have cb71 := b7.cell 1 _ rfl
        have cb72 := b7.cell 2 _ rfl
        have cb73 := b7.cell 3 _ rfl
        have cb74 := b7.cell 4 _ rfl
        have cb75 := b7.cell 5 _ rfl
        have cb80 := b8.cell 0 _ rfl
        have cb81 := b8.cell 1 _ rfl
        have cb82 := b8.cell 2 _ rfl
        have cb83 := b8.cell 3 _ rfl
        have cb84 := b8.cell 4 _ rfl
        have cb85 := b8.cell 5 _ rfl
        go_wp2_with fail
        clear cb40 cb41 cb42 cb43 cb44 cb45 cb50 cb51 cb52 cb53 cb54 cb55 cb70 cb71 cb72 cb73 cb74 cb75 cb80 cb81 cb82 cb83 cb84 cb85
        refine (lcompare_v g15 g16 g17 V1.out g18 g19 g20 V0.out (cmp3_swap Hka.out) (by decide)).mono ?_
        rintro e w19 ⟨rfl, hb⟩
        replace g18 := g18.below hb
        replace g19 := g19.below hb
        replace g20 := g20.below hb
        replace g15 := g15.below hb
        replace g16 := g16.below hb
        replace g17 := g17.below hb
        replace g12 := g12.below hb
        replace g13 := g13.below hb
        replace g14 := g14.below hb
        replace g9 := g9.below hb
        replace g10 := g10.below hb
        replace g11 := g11.below hb
        replace g3 := g3.below hb
        replace g4 := g4.below hb
        replace g5 := g5.below hb
        replace b4 := b4.below hb
        replace b5 := b5.below hb
        replace b6 := b6.below hb
        replace b7 := b7.below hb
        replace b8 := b8.below hb
        replace H0 := H0.trans (hb.mono H0.size)
        clear hb
        have cb40 := b4.cell 0 _ rfl
        have cb41 := b4.cell 1 _ rfl
        have cb42 := b4.cell 2 _ rfl
        have cb43 := b4.cell 3 _ rfl
        have cb44 := b4.cell 4 _ rfl
        have cb45 := b4.cell 5 _ rfl
        have cb50 := b5.cell 0 _ rfl
        have cb51 := b5.cell 1 _ rfl
        have cb52 := b5.cell 2 _ rfl
        have cb53 := b5.cell 3 _ rfl
        have cb54 := b5.cell 4 _ rfl
        have cb55 := b5.cell 5 _ rfl
        have cb70 := b7.cell 0 _ rfl
        have cb71 := b7.cell 1 _ rfl
        have cb72 := b7.cell 2 _ rfl
        have cb73 := b7.cell 3 _ rfl
        have cb74 := b7.cell 4 _ rfl
        have cb75 := b7.cell 5 _ rfl
        have cb80 := b8.cell 0 _ rfl
        have cb81 := b8.cell 1 _ rfl
        have cb82 := b8.cell 2 _ rfl
        have cb83 := b8.cell 3 _ rfl
        have cb84 := b8.cell 4 _ rfl
        have cb85 := b8.cell 5 _ rfl
        go_wp2_with fail
        have V4 := Lib.hid (vl_neg V3.out)
        clear cb40 cb41 cb42 cb43 cb44 cb45 cb50 cb51 cb52 cb53 cb54 cb55 cb70 cb71 cb72 cb73 cb74 cb75 cb80 cb81 cb82 cb83 cb84 cb85
        refine (lsame_v g9 g10 g11 V0.out g3 g4 g5 V4.out (cmp3_same0 z0 z1 z2) (by decide)).mono ?_
        rintro e w20 ⟨rfl, hb⟩
        replace g18 := g18.below hb
        replace g19 := g19.below hb
        replace g20 := g20.below hb
        replace g15 := g15.below hb
        replace g16 := g16.below hb
        replace g17 := g17.below hb
        replace g12 := g12.below hb
        replace g13 := g13.below hb
        replace g14 := g14.below hb
        replace g9 := g9.below hb
        replace g10 := g10.below hb
        replace g11 := g11.below hb
        replace g3 := g3.below hb
        replace g4 := g4.below hb
        replace g5 := g5.below hb
        replace b4 := b4.below hb
        replace b5 := b5.below hb
        replace b6 := b6.below hb
        replace b7 := b7.below hb
        replace b8 := b8.below hb
        replace H0 := H0.trans (hb.mono H0.size)
        clear hb
        go_wp2_with fail
        go_returns
        exact ⟨rfl, H0⟩
      · have eb : decide (kb ≤ 0) = false := decide_eq_false hb0
        clear HT3 hb0
        have cb40 := b4.cell 0 _ rfl
        have cb41 := b4.cell 1 _ rfl
        have cb42 := b4.cell 2 _ rfl
        have cb43 := b4.cell 3 _ rfl
        have cb44 := b4.cell 4 _ rfl
        have cb45 := b4.cell 5 _ rfl
        have cb50 := b5.cell 0 _ rfl
        have cb51 := b5.cell 1 _ rfl
        have cb52 := b5.cell 2 _ rfl
        have cb53 := b5.cell 3 _ rfl
        have cb54 := b5.cell 4 _ rfl
        have cb55 := b5.cell 5 _ rfl
        have cb70 := b7.cell 0 _ rfl
        have cb71 := b7.cell 1 _ rfl
        have cb72 := b7.cell 2 _ rfl
        have cb73 := b7.cell 3 _ rfl
        have cb74 := b7.cell 4 _ rfl
        have cb75 := b7.cell 5 _ rfl
        have cb80 := b8.cell 0 _ rfl
        have cb81 := b8.cell 1 _ rfl
        have cb82 := b8.cell 2 _ rfl
        have cb83 := b8.cell 3 _ rfl
        have cb84 := b8.cell 4 _ rfl
        have cb85 := b8.cell 5 _ rfl
        go_wp2_with fail
        clear cb40 cb41 cb42 cb43 cb44 cb45 cb50 cb51 cb52 cb53 cb54 cb55 cb70 cb71 cb72 cb73 cb74 cb75 cb80 cb81 cb82 cb83 cb84 cb85
        refine (lcompare_v g15 g16 g17 V1.out g18 g19 g20 V0.out (cmp3_swap Hka.out) (by decide)).mono ?_
        rintro e w19 ⟨rfl, hb⟩
        replace g18 := g18.below hb
        replace g19 := g19.below hb
        replace g20 := g20.below hb
        replace g15 := g15.below hb
        replace g16 := g16.below hb
        replace g17 := g17.below hb
        replace g12 := g12.below hb
        replace g13 := g13.below hb
        replace g14 := g14.below hb
        replace g9 := g9.below hb
        replace g10 := g10.below hb
        replace g11 := g11.below hb
        replace g3 := g3.below hb
        replace g4 := g4.below hb
        replace g5 := g5.below hb
        replace b4 := b4.below hb
        replace b5 := b5.below hb
        replace b6 := b6.below hb
        replace b7 := b7.below hb
        replace b8 := b8.below hb
        replace H0 := H0.trans (hb.mono H0.size)
        clear hb
        have cb40 := b4.cell 0 _ rfl
        have cb41 := b4.cell 1 _ rfl
        have cb42 := b4.cell 2 _ rfl
        have cb43 := b4.cell 3 _ rfl
        have cb44 := b4.cell 4 _ rfl
        have cb45 := b4.cell 5 _ rfl
        have cb50 := b5.cell 0 _ rfl
        have cb51 := b5.cell 1 _ rfl
        have cb52 := b5.cell 2 _ rfl
        have cb53 := b5.cell 3 _ rfl
        have cb54 := b5.cell 4 _ rfl
        have cb55 := b5.cell 5 _ rfl
        have cb70 := b7.cell 0 _ rfl
        have cb71 := b7.cell 1 _ rfl
        have cb72 := b7.cell 2 _ rfl
        have cb73 := b7.cell 3 _ rfl
        have cb74 := b7.cell 4 _ rfl
        have cb75 := b7.cell 5 _ rfl
        have cb80 := b8.cell 0 _ rfl
        have cb81 := b8.cell 1 _ rfl
        have cb82 := b8.cell 2 _ rfl
        have cb83 := b8.cell 3 _ rfl
        have cb84 := b8.cell 4 _ rfl
        have cb85 := b8.cell 5 _ rfl
        go_wp2_with fail
        have V4 := Lib.hid (vl_neg V3.out)
        clear cb40 cb41 cb42 cb43 cb44 cb45 cb50 cb51 cb52 cb53 cb54 cb55 cb70 cb71 cb72 cb73 cb74 cb75 cb80 cb81 cb82 cb83 cb84 cb85
        refine (lsame_v g9 g10 g11 V0.out g3 g4 g5 V4.out (cmp3_same0 z0 z1 z2) (by decide)).mono ?_
        rintro e w20 ⟨rfl, hb⟩
        replace g18 := g18.below hb
        replace g19 := g19.below hb
        replace g20 := g20.below hb
        replace g15 := g15.below hb
        replace g16 := g16.below hb
        replace g17 := g17.below hb
        replace g12 := g12.below hb
        replace g13 := g13.below hb
        replace g14 := g14.below hb
        replace g9 := g9.below hb
        replace g10 := g10.below hb
        replace g11 := g11.below hb
        replace g3 := g3.below hb
        replace g4 := g4.below hb
        replace g5 := g5.below hb
        replace b4 := b4.below hb
        replace b5 := b5.below hb
        replace b6 := b6.below hb
        replace b7 := b7.below hb
        replace b8 := b8.below hb
        replace H0 := H0.trans (hb.mono H0.size)
        clear hb
        go_wp2_with fail
        go_returns
        exact ⟨rfl, H0⟩
  · have HN := Lib.hid hn
    have HN2 : Hid (cmp3 (- -z0) (- -z1) (- -z2) (-z0) (-z1) (-z2) = -1) := Lib.hid (cmp3_nn hn)
    clear hn
    have V3 := Lib.hid (vl_neg V0.out)
    have cb40 := b4.cell 0 _ rfl
    have cb41 := b4.cell 1 _ rfl
    have cb42 := b4.cell 2 _ rfl
    have cb43 := b4.cell 3 _ rfl
    have cb44 := b4.cell 4 _ rfl
    have cb45 := b4.cell 5 _ rfl
    go_wp2_with fail
    clear cb40 cb41 cb42 cb43 cb44 cb45
    refine (lcanon_ge g18 g19 g20 V0.out HN.out (by decide)).mono ?_
    rintro e w13 ⟨s9, A9, n9, c9, s10, A10, n10, c10, s11, A11, n11, c11, rfl, g9, g10, g11, hb⟩
    replace g18 := g18.below hb
    replace g19 := g19.below hb
    replace g20 := g20.below hb
    replace g15 := g15.below hb
    replace g16 := g16.below hb
    replace g17 := g17.below hb
    replace g12 := g12.below hb
    replace g13 := g13.below hb
    replace g14 := g14.below hb
    replace b4 := b4.below hb
    replace b5 := b5.below hb
    replace b6 := b6.below hb
    replace H0 := H0.trans (hb.mono H0.size)
    clear hb
    have lb4_14 := b4.lt
    have lb5_14 := b5.lt
    have lb6_14 := b6.lt
    obtain ⟨W14, hW, b7, hbW, hszW14⟩ := boxes1 w13 #[.bool s9, .slice A9 n9 c9, .bool s10, .slice A10 n10 c10, .bool s11, .slice A11 n11 c11] 30
    skip
    skip
    replace g18 := g18.below hbW
    replace g19 := g19.below hbW
    replace g20 := g20.below hbW
    replace g15 := g15.below hbW
    replace g16 := g16.below hbW
    replace g17 := g17.below hbW
    replace g12 := g12.below hbW
    replace g13 := g13.below hbW
    replace g14 := g14.below hbW
    replace g9 := g9.below hbW
    replace g10 := g10.below hbW
    replace g11 := g11.below hbW
    replace b4 := b4.below hbW
    replace b5 := b5.below hbW
    replace b6 := b6.below hbW
    replace H0 := H0.trans (hbW.mono H0.size)
    clear hbW
    have cb40 := b4.cell 0 _ rfl
    have cb41 := b4.cell 1 _ rfl
    have cb42 := b4.cell 2 _ rfl
    have cb43 := b4.cell 3 _ rfl
    have cb44 := b4.cell 4 _ rfl
    have cb45 := b4.cell 5 _ rfl
    go_wp2_with fail
    clear hW
    clear cb40 cb41 cb42 cb43 cb44 cb45
    refine (lreverse_v g18 g19 g20 V0.out (by decide)).mono ?_
    rintro e w15 ⟨s6, A6, n6, c6, s7, A7, n7, c7, s8, A8, n8, c8, rfl, g6, g7, g8, hb⟩
    replace g18 := g18.below hb
    replace g19 := g19.below hb
    replace g20 := g20.below hb
    replace g15 := g15.below hb
    replace g16 := g16.below hb
    replace g17 := g17.below hb
    replace g12 := g12.below hb
    replace g13 := g13.below hb
    replace g14 := g14.below hb
    replace g9 := g9.below hb
    replace g10 := g10.below hb
    replace g11 := g11.below hb
    replace b4 := b4.below hb
    replace b5 := b5.below hb
    replace b6 := b6.below hb
    replace b7 := b7.below hb
    replace H0 := H0.trans (hb.mono H0.size)
    clear hb
    go_wp2_with fail
    refine (lcanon_lt g6 g7 g8 V3.out HN2.out (by decide)).mono ?_
    rintro e w16 ⟨s3, A3, n3, c3, s4, A4, n4, c4, s5, A5, n5, c5, rfl, g3, g4, g5, hb⟩
    replace g18 := g18.below hb
    replace g19 := g19.below hb
    replace g20 := g20.below hb
    replace g15 := g15.below hb
    replace g16 := g16.below hb
    replace g17 := g17.below hb
    replace g12 := g12.below hb
    replace g13 := g13.below hb
    replace g14 := g14.below hb
    replace g9 := g9.below hb
    replace g10 := g10.below hb
    replace g11 := g11.below hb
    replace g6 := g6.below hb
    replace g7 := g7.below hb
    replace g8 := g8.below hb
    replace b4 := b4.below hb
    replace b5 := b5.below hb
    replace b6 := b6.below hb
    replace b7 := b7.below hb
    replace H0 := H0.trans (hb.mono H0.size)
    clear hb
    clear g6
    clear g7
    clear g8
    have lb4_17 := b4.lt
    have lb5_17 := b5.lt
    have lb6_17 := b6.lt
    have lb7_17 := b7.lt
    obtain ⟨W17, hW, b8, hbW, hszW17⟩ := boxes1 w16 #[.bool s3, .slice A3 n3 c3, .bool s4, .slice A4 n4 c4, .bool s5, .slice A5 n5 c5] 30
    skip
    skip
    replace g18 := g18.below hbW
    replace g19 := g19.below hbW
    replace g20 := g20.below hbW
    replace g15 := g15.below hbW
    replace g16 := g16.below hbW
    replace g17 := g17.below hbW
    replace g12 := g12.below hbW
    replace g13 := g13.below hbW
    replace g14 := g14.below hbW
    replace g9 := g9.below hbW
    replace g10 := g10.below hbW
    replace g11 := g11.below hbW
    replace g3 := g3.below hbW
    replace g4 := g4.below hbW
    replace g5 := g5.below hbW
    replace b4 := b4.below hbW
    replace b5 := b5.below hbW
    replace b6 := b6.below hbW
    replace b7 := b7.below hbW
    replace H0 := H0.trans (hbW.mono H0.size)
    clear hbW
    go_wp2_with fail
    clear hW
    refine (known5_any).mono ?_
    rintro e w18 ⟨rfl, hb⟩
    replace g18 := g18.below hb
    replace g19 := g19.below hb
    replace g20 := g20.below hb
    replace g15 := g15.below hb
    replace g16 := g16.below hb
    replace g17 := g17.below hb
    replace g12 := g12.below hb
    replace g13 := g13.below hb
    replace g14 := g14.below hb
    replace g9 := g9.below hb
    replace g10 := g10.below hb
    replace g11 := g11.below hb
    replace g3 := g3.below hb
    replace g4 := g4.below hb
    replace g5 := g5.below hb
    replace b4 := b4.below hb
    replace b5 := b5.below hb
    replace b6 := b6.below hb
    replace b7 := b7.below hb
    replace b8 := b8.below hb
    replace H0 := H0.trans (hb.mono H0.size)
    clear hb
    have cb40 := b4.cell 0 _ rfl
    have cb41 := b4.cell 1 _ rfl
    have cb42 := b4.cell 2 _ rfl
    have cb43 := b4.cell 3 _ rfl
    have cb44 := b4.cell 4 _ rfl
    have cb45 := b4.cell 5 _ rfl
    have cb50 := b5.cell 0 _ rfl
    have cb51 := b5.cell 1 _ rfl
    have cb52 := b5.cell 2 _ rfl
    have cb53 := b5.cell 3 _ rfl
    have cb54 := b5.cell 4 _ rfl
    have cb55 := b5.cell 5 _ rfl
    have cb70 := b7.cell 0 _ rfl
    have cb71 := b7.cell 1 _ rfl
    have cb72 := b7.cell 2 _ rfl
    have cb73 := b7.cell 3 _ rfl
    have cb74 := b7.cell 4 _ rfl
    have cb75 := b7.cell 5 _ rfl
    have cb80 := b8.cell 0 _ rfl
    have cb81 := b8.cell 1 _ rfl
    have cb82 := b8.cell 2 _ rfl
    have cb83 := b8.cell 3 _ rfl
    have cb84 := b8.cell 4 _ rfl
    have cb85 := b8.cell 5 _ rfl
    clear cb40 cb41 cb42 cb43 cb44 cb45 cb50 cb51 cb52 cb53 cb54 cb55 cb70 cb71 cb72 cb73 cb74 cb75 cb80 cb81 cb82 cb83 cb84 cb85
    rcases hk3.out with rfl | rfl | rfl
    · clear hk3
      clear HT3
      have cb40 := b4.cell 0 _ rfl
      have cb41 := b4.cell 1 _ rfl
      have cb42 := b4.cell 2 _ rfl
      have cb43 := b4.cell 3 _ rfl
      have cb44 := b4.cell 4 _ rfl
      have cb45 := b4.cell 5 _ rfl
      have cb50 := b5.cell 0 _ rfl
      have cb51 := b5.cell 1 _ rfl
      have cb52 := b5.cell 2 _ rfl
      have cb53 := b5.cell 3 _ rfl
      have cb54 := b5.cell 4 _ rfl
      have cb55 := b5.cell 5 _ rfl
      have cb70 := b7.cell 0 _ rfl
      have cb71 := b7.cell 1 _ rfl
      have cb72 := b7.cell 2 _ rfl
      have cb73 := b7.cell 3 _ rfl
      have cb74 := b7.cell 4 _ rfl
      have cb75 := b7.cell 5 _ rfl
      have cb80 := b8.cell 0 _ rfl
      have cb81 := b8.cell 1 _ rfl
      have cb82 := b8.cell 2 _ rfl
      have cb83 := b8.cell 3 _ rfl
      have cb84 := b8.cell 4 _ rfl
      have cb85 := b8.cell 5 _ rfl
      go_wp2_with fail
      clear cb40 cb41 cb42 cb43 cb44 cb45 cb50 cb51 cb52 cb53 cb54 cb55 cb70 cb71 cb72 cb73 cb74 cb75 cb80 cb81 cb82 cb83 cb84 cb85
      refine (lcompare_v g15 g16 g17 V1.out g18 g19 g20 V0.out (cmp3_swap Hka.out) (by decide)).mono ?_
      rintro e w19 ⟨rfl, hb⟩
      replace g18 := g18.below hb
      replace g19 := g19.below hb
      replace g20 := g20.below hb
      replace g15 := g15.below hb
      replace g16 := g16.below hb
      replace g17 := g17.below hb
      replace g12 := g12.below hb
      replace g13 := g13.below hb
      replace g14 := g14.below hb
      replace g9 := g9.below hb
      replace g10 := g10.below hb
      replace g11 := g11.below hb
      replace g3 := g3.below hb
      replace g4 := g4.below hb
      replace g5 := g5.below hb
      replace b4 := b4.below hb
      replace b5 := b5.below hb
      replace b6 := b6.below hb
      replace b7 := b7.below hb
      replace b8 := b8.below hb
      replace H0 := H0.trans (hb.mono H0.size)
      clear hb
      have cb40 := b4.cell 0 _ rfl
      have cb41 := b4.cell 1 _ rfl
      have cb42 := b4.cell 2 _ rfl
      have cb43 := b4.cell 3 _ rfl
      have cb44 := b4.cell 4 _ rfl
      have cb45 := b4.cell 5 _ rfl
      have cb50 := b5.cell 0 _ rfl
      have cb51 := b5.cell 1 _ rfl
      have cb52 := b5.cell 2 _ rfl
      have cb53 := b5.cell 3 _ rfl
      have cb54 := b5.cell 4 _ rfl
      have cb55 := b5.cell 5 _ rfl
      have cb70 := b7.cell 0 _ rfl
      have cb71 := b7.cell 1 _ rfl
      have cb72 := b7.cell 2 _ rfl
      have cb73 := b7.cell 3 _ rfl
      have cb74 := b7.cell 4 _ rfl
      have cb75 := b7.cell 5 _ rfl
      have cb80 := b8.cell 0 _ rfl
      have cb81 := b8.cell 1 _ rfl
      have cb82 := b8.cell 2 _ rfl
      have cb83 := b8.cell 3 _ rfl
      have cb84 := b8.cell 4 _ rfl
      have cb85 := b8.cell 5 _ rfl
      go_wp2_with fail
      clear cb40 cb41 cb42 cb43 cb44 cb45 cb50 cb51 cb52 cb53 cb54 cb55 cb70 cb71 cb72 cb73 cb74 cb75 cb80 cb81 cb82 cb83 cb84 cb85
      refine (lsame_v g9 g10 g11 V3.out g3 g4 g5 V3.out (cmp3_self (-z0) (-z1) (-z2)) (by decide)).mono ?_
      rintro e w20 ⟨rfl, hb⟩
      replace g18 := g18.below hb
      replace g19 := g19.below hb
      replace g20 := g20.below hb
      replace g15 := g15.below hb
      replace g16 := g16.below hb
      replace g17 := g17.below hb
      replace g12 := g12.below hb
      replace g13 := g13.below hb
      replace g14 := g14.below hb
      replace g9 := g9.below hb
      replace g10 := g10.below hb
      replace g11 := g11.below hb
      replace g3 := g3.below hb
      replace g4 := g4.below hb
      replace g5 := g5.below hb
      replace b4 := b4.below hb
      replace b5 := b5.below hb
      replace b6 := b6.below hb
      replace b7 := b7.below hb
      replace b8 := b8.below hb
      replace H0 := H0.trans (hb.mono H0.size)
      clear hb
      go_wp2_with fail
      go_returns
      exact ⟨rfl, H0⟩
    · clear hk3
      by_cases hb0 : kb ≤ 0
      · have eb : decide (kb ≤ 0) = true := decide_eq_true hb0
        have ec : decide (0 < kc) = false := by have := HT3.out (by omega) hb0; rw [decide_eq_false_iff_not]; omega
        clear HT3 hb0
        have cb40 := b4.cell 0 _ rfl
        have cb41 := b4.cell 1 _ rfl
        have cb42 := b4.cell 2 _ rfl
        have cb43 := b4.cell 3 _ rfl
        have cb44 := b4.cell 4 _ rfl
        have cb45 := b4.cell 5 _ rfl
        have cb50 := b5.cell 0 _ rfl
        have cb51 := b5.cell 1 _ rfl
        have cb52 := b5.cell 2 _ rfl
        have cb53 := b5.cell 3 _ rfl
        have cb54 := b5.cell 4 _ rfl
        have cb55 := b5.cell 5 _ rfl
        have cb70 := b7.cell 0 _ rfl
        have cb71 := b7.cell 1 _ rfl
        have cb72 := b7.cell 2 _ rfl
        have cb73 := b7.cell 3 _ rfl
        have cb74 := b7.cell 4 _ rfl
        have cb75 := b7.cell 5 _ rfl
        have cb80 := b8.cell 0 _ rfl
        have cb81 := b8.cell 1 _ rfl
        have cb82 := b8.cell 2 _ rfl
        have cb83 := b8.cell 3 _ rfl
        have cb84 := b8.cell 4 _ rfl
        have cb85 := b8.cell 5 _ rfl
        go_wp2_with fail
        clear cb40 cb41 cb42 cb43 cb44 cb45 cb50 cb51 cb52 cb53 cb54 cb55 cb70 cb71 cb72 cb73 cb74 cb75 cb80 cb81 cb82 cb83 cb84 cb85
        refine (lcompare_v g15 g16 g17 V1.out g18 g19 g20 V0.out (cmp3_swap Hka.out) (by decide)).mono ?_
        rintro e w19 ⟨rfl, hb⟩
        replace g18 := g18.below hb
        replace g19 := g19.below hb
        replace g20 := g20.below hb
        replace g15 := g15.below hb
        replace g16 := g16.below hb
        replace g17 := g17.below hb
        replace g12 := g12.below hb
        replace g13 := g13.below hb
        replace g14 := g14.below hb
        replace g9 := g9.below hb
        replace g10 := g10.below hb
        replace g11 := g11.below hb
        replace g3 := g3.below hb
        replace g4 := g4.below hb
        replace g5 := g5.below hb
        replace b4 := b4.below hb
        replace b5 := b5.below hb
        replace b6 := b6.below hb
        replace b7 := b7.below hb
        replace b8 := b8.below hb
        replace H0 := H0.trans (hb.mono H0.size)
        clear hb
        have cb40 := b4.cell 0 _ rfl
        have cb41 := b4.cell 1 _ rfl
        have cb42 := b4.cell 2 _ rfl
        have cb43 := b4.cell 3 _ rfl
        have cb44 := b4.cell 4 _ rfl
        have cb45 := b4.cell 5 _ rfl
        have cb50 := b5.cell 0 _ rfl
        have cb51 := b5.cell 1 _ rfl
        have cb52 := b5.cell 2 _ rfl
        have cb53 := b5.cell 3 _ rfl
        have cb54 := b5.cell 4 _ rfl
        have cb55 := b5.cell 5 _ rfl
        have cb70 := b7.cell 0 _ rfl
        have cb71 := b7.cell 1 _ rfl
        have cb72 := b7.cell 2 _ rfl
        have cb73 := b7.cell 3 _ rfl
        have cb74 := b7.cell 4 _ rfl
        have cb75 := b7.cell 5 _ rfl
        have cb80 := b8.cell 0 _ rfl
        have cb81 := b8.cell 1 _ rfl
        have cb82 := b8.cell 2 _ rfl
        have cb83 := b8.cell 3 _ rfl
        have cb84 := b8.cell 4 _ rfl
        have cb85 := b8.cell 5 _ rfl
        go_wp2_with fail
        clear cb40 cb41 cb42 cb43 cb44 cb45 cb50 cb51 cb52 cb53 cb54 cb55 cb70 cb71 cb72 cb73 cb74 cb75 cb80 cb81 cb82 cb83 cb84 cb85
        refine (lsame_v g18 g19 g20 V0.out g15 g16 g17 V1.out Hka.out (by decide)).mono ?_
        rintro e w20 ⟨rfl, hb⟩
        replace g18 := g18.below hb
        replace g19 := g19.below hb
        replace g20 := g20.below hb
        replace g15 := g15.below hb
        replace g16 := g16.below hb
        replace g17 := g17.below hb
        replace g12 := g12.below hb
        replace g13 := g13.below hb
        replace g14 := g14.below hb
        replace g9 := g9.below hb
        replace g10 := g10.below hb
        replace g11 := g11.below hb
        replace g3 := g3.below hb
        replace g4 := g4.below hb
        replace g5 := g5.below hb
        replace b4 := b4.below hb
        replace b5 := b5.below hb
        replace b6 := b6.below hb
        replace b7 := b7.below hb
        replace b8 := b8.below hb
        replace H0 := H0.trans (hb.mono H0.size)
        clear hb
        have cb70 := b7.cell 0 _ rfl
        have cb71 := b7.cell 1 _ rfl
        have cb72 := b7.cell 2 _ rfl
        have cb73 := b7.cell 3 _ rfl
        have cb74 := b7.cell 4 _ rfl
        have cb75 := b7.cell 5 _ rfl
        have cb80 := b8.cell 0 _ rfl
        have cb81 := b8.cell 1 _ rfl
        have cb82 := b8.cell 2 _ rfl
        have cb83 := b8.cell 3 _ rfl
        have cb84 := b8.cell 4 _ rfl
        have cb85 := b8.cell 5 _ rfl
        go_wp2_with fail
        clear cb70 cb71 cb72 cb73 cb74 cb75 cb80 cb81 cb82 cb83 cb84 cb85
        refine (lsame_v g9 g10 g11 V3.out g3 g4 g5 V3.out (cmp3_self (-z0) (-z1) (-z2)) (by decide)).mono ?_
        rintro e w21 ⟨rfl, hb⟩
        replace g18 := g18.below hb
        replace g19 := g19.below hb
        replace g20 := g20.below hb
        replace g15 := g15.below hb
        replace g16 := g16.below hb
        replace g17 := g17.below hb
        replace g12 := g12.below hb
        replace g13 := g13.below hb
        replace g14 := g14.below hb
        replace g9 := g9.below hb
        replace g10 := g10.below hb
        replace g11 := g11.below hb
        replace g3 := g3.below hb
        replace g4 := g4.below hb
        replace g5 := g5.below hb
        replace b4 := b4.below hb
        replace b5 := b5.below hb
        replace b6 := b6.below hb
        replace b7 := b7.below hb
        replace b8 := b8.below hb
        replace H0 := H0.trans (hb.mono H0.size)
        clear hb
        go_wp2_with fail
        go_returns
        exact ⟨rfl, H0⟩
      · have eb : decide (kb ≤ 0) = false := decide_eq_false hb0
        clear HT3 hb0
        have cb40 := b4.cell 0 _ rfl
        have cb41 := b4.cell 1 _ rfl
        have cb42 := b4.cell 2 _ rfl
        have cb43 := b4.cell 3 _ rfl
        have cb44 := b4.cell 4 _ rfl
        have cb45 := b4.cell 5 _ rfl
        have cb50 := b5.cell 0 _ rfl
        have cb51 := b5.cell 1 _ rfl
        have cb52 := b5.cell 2 _ rfl
        have cb53 := b5.cell 3 _ rfl
        have cb54 := b5.cell 4 _ rfl
        have cb55 := b5.cell 5 _ rfl
        have cb70 := b7.cell 0 _ rfl
        have cb71 := b7.cell 1 _ rfl
        have cb72 := b7.cell 2 _ rfl
        have cb73 := b7.cell 3 _ rfl
        have cb74 := b7.cell 4 _ rfl
        have cb75 := b7.cell 5 _ rfl
        have cb80 := b8.cell 0 _ rfl
        have cb81 := b8.cell 1 _ rfl
        have cb82 := b8.cell 2 _ rfl
        have cb83 := b8.cell 3 _ rfl
        have cb84 := b8.cell 4 _ rfl
        have cb85 := b8.cell 5 _ rfl
        go_wp2_with fail
        clear cb40 cb41 cb42 cb43 cb44 cb45 cb50 cb51 cb52 cb53 cb54 cb55 cb70 cb71 cb72 cb73 cb74 cb75 cb80 cb81 cb82 cb83 cb84 cb85
        refine (lcompare_v g15 g16 g17 V1.out g18 g19 g20 V0.out (cmp3_swap Hka.out) (by decide)).mono ?_
        rintro e w19 ⟨rfl, hb⟩
        replace g18 := g18.below hb
        replace g19 := g19.below hb
        replace g20 := g20.below hb
        replace g15 := g15.below hb
        replace g16 := g16.below hb
        replace g17 := g17.below hb
        replace g12 := g12.below hb
        replace g13 := g13.below hb
        replace g14 := g14.below hb
        replace g9 := g9.below hb
        replace g10 := g10.below hb
        replace g11 := g11.below hb
        replace g3 := g3.below hb
        replace g4 := g4.below hb
        replace g5 := g5.below hb
        replace b4 := b4.below hb
        replace b5 := b5.below hb
        replace b6 := b6.below hb
        replace b7 := b7.below hb
        replace b8 := b8.below hb
        replace H0 := H0.trans (hb.mono H0.size)
        clear hb
        have cb40 := b4.cell 0 _ rfl
        have cb41 := b4.cell 1 _ rfl
        have cb42 := b4.cell 2 _ rfl
        have cb43 := b4.cell 3 _ rfl
        have cb44 := b4.cell 4 _ rfl
        have cb45 := b4.cell 5 _ rfl
        have cb50 := b5.cell 0 _ rfl
        have cb51 := b5.cell 1 _ rfl
        have cb52 := b5.cell 2 _ rfl
        have cb53 := b5.cell 3 _ rfl
        have cb54 := b5.cell 4 _ rfl
        have cb55 := b5.cell 5 _ rfl
        have cb70 := b7.cell 0 _ rfl
        have cb71 := b7.cell 1 _ rfl
        have cb72 := b7.cell 2 _ rfl
        have cb73 := b7.cell 3 _ rfl
        have cb74 := b7.cell 4 _ rfl
        have cb75 := b7.cell 5 _ rfl
        have cb80 := b8.cell 0 _ rfl
        have cb81 := b8.cell 1 _ rfl
        have cb82 := b8.cell 2 _ rfl
        have cb83 := b8.cell 3 _ rfl
        have cb84 := b8.cell 4 _ rfl
        have cb85 := b8.cell 5 _ rfl
        go_wp2_with fail
        clear cb40 cb41 cb42 cb43 cb44 cb45 cb50 cb51 cb52 cb53 cb54 cb55 cb70 cb71 cb72 cb73 cb74 cb75 cb80 cb81 cb82 cb83 cb84 cb85
        refine (lsame_v g18 g19 g20 V0.out g15 g16 g17 V1.out Hka.out (by decide)).mono ?_
        rintro e w20 ⟨rfl, hb⟩
        replace g18 := g18.below hb
        replace g19 := g19.below hb
        replace g20 := g20.below hb
        replace g15 := g15.below hb
        replace g16 := g16.below hb
        replace g17 := g17.below hb
        replace g12 := g12.below hb
        replace g13 := g13.below hb
        replace g14 := g14.below hb
        replace g9 := g9.below hb
        replace g10 := g10.below hb
        replace g11 := g11.below hb
        replace g3 := g3.below hb
        replace g4 := g4.below hb
        replace g5 := g5.below hb
        replace b4 := b4.below hb
        replace b5 := b5.below hb
        replace b6 := b6.below hb
        replace b7 := b7.below hb
        replace b8 := b8.below hb
        replace H0 := H0.trans (hb.mono H0.size)
        clear hb
        have cb70 := b7.cell 0 _ rfl
        have cb71 := b7.cell 1 _ rfl
        have cb72 := b7.cell 2 _ rfl
        have cb73 := b7.cell 3 _ rfl
        have cb74 := b7.cell 4 _ rfl
        have cb75 := b7.cell 5 _ rfl
        have cb80 := b8.cell 0 _ rfl
        have cb81 := b8.cell 1 _ rfl
        have cb82 := b8.cell 2 _ rfl
        have cb83 := b8.cell 3 _ rfl
        have cb84 := b8.cell 4 _ rfl
        have cb85 := b8.cell 5 _ rfl
        go_wp2_with fail
        clear cb70 cb71 cb72 cb73 cb74 cb75 cb80 cb81 cb82 cb83 cb84 cb85
        refine (lsame_v g9 g10 g11 V3.out g3 g4 g5 V3.out (cmp3_self (-z0) (-z1) (-z2)) (by decide)).mono ?_
        rintro e w21 ⟨rfl, hb⟩
        replace g18 := g18.below hb
        replace g19 := g19.below hb
        replace g20 := g20.below hb
        replace g15 := g15.below hb
        replace g16 := g16.below hb
        replace g17 := g17.below hb
        replace g12 := g12.below hb
        replace g13 := g13.below hb
        replace g14 := g14.below hb
        replace g9 := g9.below hb
        replace g10 := g10.below hb
        replace g11 := g11.below hb
        replace g3 := g3.below hb
        replace g4 := g4.below hb
        replace g5 := g5.below hb
        replace b4 := b4.below hb
        replace b5 := b5.below hb
        replace b6 := b6.below hb
        replace b7 := b7.below hb
        replace b8 := b8.below hb
        replace H0 := H0.trans (hb.mono H0.size)
        clear hb
        go_wp2_with fail
        go_returns
        exact ⟨rfl, H0⟩
    · clear hk3
      by_cases hb0 : kb ≤ 0
      · have eb : decide (kb ≤ 0) = true := decide_eq_true hb0
        have ec : decide (0 < kc) = false := by have := HT3.out (by omega) hb0; rw [decide_eq_false_iff_not]; omega
        clear HT3 hb0
        have cb40 := b4.cell 0 _ rfl
        have cb41 := b4.cell 1 _ rfl
        have cb42 := b4.cell 2 _ rfl
        have cb43 := b4.cell 3 _ rfl
        have cb44 := b4.cell 4 _ rfl
        have cb45 := b4.cell 5 _ rfl
        have cb50 := b5.cell 0 _ rfl
        have cb51 := b5.cell 1 _ rfl
        have cb52 := b5.cell 2 _ rfl
        have cb53 := b5.cell 3 _ rfl
        have cb54 := b5.cell 4 _ rfl
        have cb55 := b5.cell 5 _ rfl
        have cb70 := b7.cell 0 _ rfl
        have cb71 := b7.cell 1 _ rfl
        have cb72 := b7.cell 2 _ rfl
        have cb73 := b7.cell 3 _ rfl
        have cb74 := b7.cell 4 _ rfl
        have cb75 := b7.cell 5 _ rfl
        have cb80 := b8.cell 0 _ rfl
        have cb81 := b8.cell 1 _ rfl
        have cb82 := b8.cell 2 _ rfl
        have cb83 := b8.cell 3 _ rfl
        have cb84 := b8.cell 4 _ rfl
        have cb85 := b8.cell 5 _ rfl
        go_wp2_with fail
        clear cb40 cb41 cb42 cb43 cb44 cb45 cb50 cb51 cb52 cb53 cb54 cb55 cb70 cb71 cb72 cb73 cb74 cb75 cb80 cb81 cb82 cb83 cb84 cb85
        refine (lcompare_v g15 g16 g17 V1.out g18 g19 g20 V0.out (cmp3_swap Hka.out) (by decide)).mono ?_
        rintro e w19 ⟨rfl, hb⟩
        replace g18 := g18.below hb
        replace g19 := g19.below hb
        replace g20 := g20.below hb
        replace g15 := g15.below hb
        replace g16 := g16.below hb
        replace g17 := g17.below hb
        replace g12 := g12.below hb
        replace g13 := g13.below hb
        replace g14 := g14.below hb
        replace g9 := g9.below hb
        replace g10 := g10.below hb
        replace g11 := g11.below hb
        replace g3 := g3.below hb
        replace g4 := g4.below hb
        replace g5 := g5.below hb
        replace b4 := b4.below hb
        replace b5 := b5.below hb
        replace b6 := b6.below hb
        replace b7 := b7.below hb
        replace b8 := b8.below hb
        replace H0 := H0.trans (hb.mono H0.size)
        clear hb
        have cb40 := b4.cell 0 _ rfl
        have cb41 := b4.cell 1 _ rfl
        have cb42 := b4.cell 2 _ rfl
        have cb43 := b4.cell 3 _ rfl
        have cb44 := b4.cell 4 _ rfl
        have cb45 := b4.cell 5 _ rfl
        have cb50 := b5.cell 0 _ rfl
        have cb51 := b5.cell 1 _ rfl
        have cb52 := b5.cell 2 _ rfl
        have cb53 := b5.cell 3 _ rfl
        have cb54 := b5.cell 4 _ rfl
        have cb55 := b5.cell 5 _ rfl
        have cb70 := b7.cell 0 _ rfl
        have cb71 := b7.cell 1 _ rfl
        have cb72 := b7.cell 2 _ rfl
        have cb73 := b7.cell 3 _ rfl
        have cb74 := b7.cell 4 _ rfl
        have cb75 := b7.cell 5 _ rfl
        have cb80 := b8.cell 0 _ rfl
        have cb81 := b8.cell 1 _ rfl
        have cb82 := b8.cell 2 _ rfl
        have cb83 := b8.cell 3 _ rfl
        have cb84 := b8.cell 4 _ rfl
        have cb85 := b8.cell 5 _ rfl
        go_wp2_with fail
        clear cb40 cb41 cb42 cb43 cb44 cb45 cb50 cb51 cb52 cb53 cb54 cb55 cb70 cb71 cb72 cb73 cb74 cb75 cb80 cb81 cb82 cb83 cb84 cb85
        refine (lsame_v g9 g10 g11 V3.out g3 g4 g5 V3.out (cmp3_self (-z0) (-z1) (-z2)) (by decide)).mono ?_
        rintro e w20 ⟨rfl, hb⟩
        replace g18 := g18.below hb
        replace g19 := g19.below hb
        replace g20 := g20.below hb
        replace g15 := g15.below hb
        replace g16 := g16.below hb
        replace g17 := g17.below hb
        replace g12 := g12.below hb
        replace g13 := g13.below hb
        replace g14 := g14.below hb
        replace g9 := g9.below hb
        replace g10 := g10.below hb
        replace g11 := g11.below hb
        replace g3 := g3.below hb
        replace g4 := g4.below hb
        replace g5 := g5.below hb
        replace b4 := b4.below hb
        replace b5 := b5.below hb
        replace b6 := b6.below hb
        replace b7 := b7.below hb
        replace b8 := b8.below hb
        replace H0 := H0.trans (hb.mono H0.size)
        clear hb
        go_wp2_with fail
        go_returns
        exact ⟨rfl, H0⟩
      · have eb : decide (kb ≤ 0) = false := decide_eq_false hb0
        clear HT3 hb0
        have cb40 := b4.cell 0 _ rfl
        have cb41 := b4.cell 1 _ rfl
        have cb42 := b4.cell 2 _ rfl
        have cb43 := b4.cell 3 _ rfl
        have cb44 := b4.cell 4 _ rfl
        have cb45 := b4.cell 5 _ rfl
        have cb50 := b5.cell 0 _ rfl
        have cb51 := b5.cell 1 _ rfl
        have cb52 := b5.cell 2 _ rfl
        have cb53 := b5.cell 3 _ rfl
        have cb54 := b5.cell 4 _ rfl
        have cb55 := b5.cell 5 _ rfl
        have cb70 := b7.cell 0 _ rfl
        have cb71 := b7.cell 1 _ rfl
        have cb72 := b7.cell 2 _ rfl
        have cb73 := b7.cell 3 _ rfl
        have cb74 := b7.cell 4 _ rfl
        have cb75 := b7.cell 5 _ rfl
        have cb80 := b8.cell 0 _ rfl
        have cb81 := b8.cell 1 _ rfl
        have cb82 := b8.cell 2 _ rfl
        have cb83 := b8.cell 3 _ rfl
        have cb84 := b8.cell 4 _ rfl
        have cb85 := b8.cell 5 _ rfl
        go_wp2_with fail
        clear cb40 cb41 cb42 cb43 cb44 cb45 cb50 cb51 cb52 cb53 cb54 cb55 cb70 cb71 cb72 cb73 cb74 cb75 cb80 cb81 cb82 cb83 cb84 cb85
        refine (lcompare_v g15 g16 g17 V1.out g18 g19 g20 V0.out (cmp3_swap Hka.out) (by decide)).mono ?_
        rintro e w19 ⟨rfl, hb⟩
        replace g18 := g18.below hb
        replace g19 := g19.below hb
        replace g20 := g20.below hb
        replace g15 := g15.below hb
        replace g16 := g16.below hb
        replace g17 := g17.below hb
        replace g12 := g12.below hb
        replace g13 := g13.below hb
        replace g14 := g14.below hb
        replace g9 := g9.below hb
        replace g10 := g10.below hb
        replace g11 := g11.below hb
        replace g3 := g3.below hb
        replace g4 := g4.below hb
        replace g5 := g5.below hb
        replace b4 := b4.below hb
        replace b5 := b5.below hb
        replace b6 := b6.below hb
        replace b7 := b7.below hb
        replace b8 := b8.below hb
        replace H0 := H0.trans (hb.mono H0.size)
        clear hb
        have cb40 := b4.cell 0 _ rfl
        have cb41 := b4.cell 1 _ rfl
        have cb42 := b4.cell 2 _ rfl
        have cb43 := b4.cell 3 _ rfl
        have cb44 := b4.cell 4 _ rfl
        have cb45 := b4.cell 5 _ rfl
        have cb50 := b5.cell 0 _ rfl
        have cb51 := b5.cell 1 _ rfl
        have cb52 := b5.cell 2 _ rfl
        have cb53 := b5.cell 3 _ rfl
        have cb54 := b5.cell 4 _ rfl
        have cb55 := b5.cell 5 _ rfl
        have cb70 := b7.cell 0 _ rfl
        have cb71 := b7.cell 1 _ rfl
        have cb72 := b7.cell 2 _ rfl
        have cb73 := b7.cell 3 _ rfl
        have cb74 := b7.cell 4 _ rfl
        have cb75 := b7.cell 5 _ rfl
        have cb80 := b8.cell 0 _ rfl
        have cb81 := b8.cell 1 _ rfl
        have cb82 := b8.cell 2 _ rfl
        have cb83 := b8.cell 3 _ rfl
        have cb84 := b8.cell 4 _ rfl
        have cb85 := b8.cell 5 _ rfl
        go_wp2_with fail
        clear cb40 cb41 cb42 cb43 cb44 cb45 cb50 cb51 cb52 cb53 cb54 cb55 cb70 cb71 cb72 cb73 cb74 cb75 cb80 cb81 cb82 cb83 cb84 cb85
        refine (lsame_v g9 g10 g11 V3.out g3 g4 g5 V3.out (cmp3_self (-z0) (-z1) (-z2)) (by decide)).mono ?_
        rintro e w20 ⟨rfl, hb⟩
        replace g18 := g18.below hb
        replace g19 := g19.below hb
        replace g20 := g20.below hb
        replace g15 := g15.below hb
        replace g16 := g16.below hb
        replace g17 := g17.below hb
        replace g12 := g12.below hb
        replace g13 := g13.below hb
        replace g14 := g14.below hb
        replace g9 := g9.below hb
        replace g10 := g10.below hb
        replace g11 := g11.below hb
        replace g3 := g3.below hb
        replace g4 := g4.below hb
        replace g5 := g5.below hb
        replace b4 := b4.below hb
        replace b5 := b5.below hb
        replace b6 := b6.below hb
        replace b7 := b7.below hb
        replace b8 := b8.below hb
        replace H0 := H0.trans (hb.mono H0.size)
        clear hb
        go_wp2_with fail
        go_returns
        exact ⟨rfl, H0⟩
end
end Go.Proofs.YtfonldogbfkpiaaGreat
