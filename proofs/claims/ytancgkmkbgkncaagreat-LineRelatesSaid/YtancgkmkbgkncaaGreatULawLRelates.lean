/-
  The walk of the law LineRelates.
-/
import Derived.Test.YtancgkmkbgkncaaGreatUSq
import Derived.Test.YtancgkmkbgkncaaGreatUBox
import Derived.Test.YtancgkmkbgkncaaGreatUDivLong
import Derived.Test.YtancgkmkbgkncaaGreatUEB
import Derived.Test.YtancgkmkbgkncaaGreatUEB2
import Derived.Test.YtancgkmkbgkncaaGreatUFormI
import Derived.Test.YtancgkmkbgkncaaGreatUIGcd
import Derived.Test.YtancgkmkbgkncaaGreatUK1
import Derived.Test.YtancgkmkbgkncaaGreatUK2
import Derived.Test.YtancgkmkbgkncaaGreatUK3
import Derived.Test.YtancgkmkbgkncaaGreatUK4
import Derived.Test.YtancgkmkbgkncaaGreatUK5
import Derived.Test.YtancgkmkbgkncaaGreatUK6
import Derived.Test.YtancgkmkbgkncaaGreatUK7
import Derived.Test.YtancgkmkbgkncaaGreatUK8
import Derived.Test.YtancgkmkbgkncaaGreatUK9
import Derived.Test.YtancgkmkbgkncaaGreatULnA
import Derived.Test.YtancgkmkbgkncaaGreatULnB
import Derived.Test.YtancgkmkbgkncaaGreatULnC
import Derived.Test.YtancgkmkbgkncaaGreatULnD
import Derived.Test.YtancgkmkbgkncaaGreatULnG
import Derived.Test.YtancgkmkbgkncaaGreatULnH
import Derived.Test.YtancgkmkbgkncaaGreatULnK
import Derived.Test.YtancgkmkbgkncaaGreatULnM
import Derived.Test.YtancgkmkbgkncaaGreatULnP
import Derived.Test.YtancgkmkbgkncaaGreatULnQ
import Derived.Test.YtancgkmkbgkncaaGreatULnT
import Derived.Test.YtancgkmkbgkncaaGreatULnV
import Derived.Test.YtancgkmkbgkncaaGreatULnX
import Derived.Test.YtancgkmkbgkncaaGreatUN1
import Derived.Test.YtancgkmkbgkncaaGreatUOrd
import Derived.Test.YtancgkmkbgkncaaGreatUPhase
import Derived.Test.YtancgkmkbgkncaaGreatUPtA
import Derived.Test.YtancgkmkbgkncaaGreatUPtG
import Derived.Test.YtancgkmkbgkncaaGreatUPtT
import Derived.Test.YtancgkmkbgkncaaGreatUR1
import Derived.Test.YtancgkmkbgkncaaGreatURatA
import Derived.Test.YtancgkmkbgkncaaGreatURatC
import Derived.Test.YtancgkmkbgkncaaGreatURatD
import Derived.Test.YtancgkmkbgkncaaGreatURatR
import Derived.Test.YtancgkmkbgkncaaGreatURatS
import Derived.Test.YtancgkmkbgkncaaGreatURatT
import Derived.Test.YtancgkmkbgkncaaGreatUS1
import Derived.Test.YtancgkmkbgkncaaGreatUShelf
import Derived.Deep.Cut
namespace Go.Proofs.YtancgkmkbgkncaaGreat
open List (getElem_toArray getElem_cons_succ getElem_cons_zero setIfInBounds_toArray set_cons_zero set_cons_succ)
open Go.RowKit

section
variable {A0 A1 A2 A3 A4 A5 A9 A10 A11 A12 A13 A14 A15 A16 A17 A18 A19 A20 A21 A22 A23 D0 D1 D2 D3 D4 D10 D11 : Option Addr} {n0 n1 n2 n3 n4 n5 n9 n10 n11 n12 n13 n14 n15 n16 n17 n18 n19 n20 n21 n22 n23 c0 c1 c2 c3 c4 c5 c9 c10 c11 c12 c13 c14 c15 c16 c17 c18 c19 c20 c21 c22 c23 m0 m1 m2 m3 m10 m11 e0 e1 e2 e3 e10 e11 : Nat} {s0 s1 s2 s3 s4 s5 s9 s10 s11 s12 s13 s14 s15 s16 s17 s18 s19 s20 s21 s22 s23 : Bool} {q0 q1 q2 q3 q4 q5 q6 q7 : Rat} {z0 z1 z2 z3 z4 z5 z6 z7 z8 z9 z10 z11 : Int} {L L0 L1 x y : Nat} {k : Int} {b : Bool} {w : World}
theorem samep_zo (h : ZO w s0 (.slice A0 n0 c0) (.slice D0 m0 e0)) (h' : ZO w s1 (.slice A1 n1 c1) (.slice D1 m1 e1)) :
    Calls Tryz.prog 43 #[.agg #[.bool s0, .slice A0 n0 c0, .slice D0 m0 e0, .bool s1, .slice A1 n1 c1, .slice D1 m1 e1], .agg #[.bool false, .slice none 0 0, .slice none 0 0, .bool false, .slice none 0 0, .slice none 0 0]] w fun e w' => e = .returned (.bool true) ∧ Below w.heap.size w w' := by
  go_enter Tryz.func43, Tryz.ntmps43
  go_wp2_with fail
  obtain ⟨W0, hW, b0, b1, hbW, hszW0⟩ := boxes2 w #[.bool s0, .slice A0 n0 c0, .slice D0 m0 e0, .bool s1, .slice A1 n1 c1, .slice D1 m1 e1] #[.bool false, .slice none 0 0, .slice none 0 0, .bool false, .slice none 0 0, .slice none 0 0] 54 54
  rw [hW]
  clear hW
  replace h := h.below hbW
  replace h' := h'.below hbW
  have H0 := hbW
  clear hbW
  obtain ⟨cb00, cb01, cb02, cb03, cb04, cb05⟩ := b0.cells6
  obtain ⟨cb10, cb11, cb12, cb13, cb14, cb15⟩ := b1.cells6
  go_wp2_with fail
  clear cb00 cb01 cb02 cb03 cb04 cb05 cb10 cb11 cb12 cb13 cb14 cb15
  refine (sameq_zo h).mono ?_
  rintro e w1 ⟨rfl, hb⟩
  replace h := h.below hb
  replace h' := h'.below hb
  replace b0 := b0.below hb
  replace b1 := b1.below hb
  replace H0 := H0.trans (hb.mono H0.size)
  clear hb
  obtain ⟨cb00, cb01, cb02, cb03, cb04, cb05⟩ := b0.cells6
  obtain ⟨cb10, cb11, cb12, cb13, cb14, cb15⟩ := b1.cells6
  go_wp2_with fail
  clear cb00 cb01 cb02 cb03 cb04 cb05 cb10 cb11 cb12 cb13 cb14 cb15
  refine (sameq_zo h').mono ?_
  rintro e w2 ⟨rfl, hb⟩
  replace h := h.below hb
  replace h' := h'.below hb
  replace b0 := b0.below hb
  replace b1 := b1.below hb
  replace H0 := H0.trans (hb.mono H0.size)
  clear hb
  go_wp2_with fail
  go_returns
  exact ⟨rfl, H0⟩
theorem gmeet_zo (h0 : NI w s0 (.slice A0 n0 c0) z0 4) (h1 : NI w s1 (.slice A1 n1 c1) z1 4) (h2 : NI w s2 (.slice A2 n2 c2) z2 4) (h3 : NI w s3 (.slice A3 n3 c3) z3 4) (h4 : NI w s4 (.slice A4 n4 c4) z4 4) (h5 : NI w s5 (.slice A5 n5 c5) z5 4) (hz : z0 * z4 - z1 * z3 = 0) :
    Calls Tryz.prog 42 #[.agg #[.bool s0, .slice A0 n0 c0, .bool s1, .slice A1 n1 c1, .bool s2, .slice A2 n2 c2], .agg #[.bool s3, .slice A3 n3 c3, .bool s4, .slice A4 n4 c4, .bool s5, .slice A5 n5 c5]] w fun e w' => ∃ s10 A10 n10 c10 D10 m10 e10 s11 A11 n11 c11 D11 m11 e11, e = .returned (.tuple #[.agg #[.bool s10, .slice A10 n10 c10, .slice D10 m10 e10, .bool s11, .slice A11 n11 c11, .slice D11 m11 e11], .bool false]) ∧ Below w.heap.size w w' := by
  refine (gmeet_z h0 h1 h2 h3 h4 h5 hz).mono ?_
  rintro e w' ⟨h1, h2⟩
  exact ⟨_, _, _, _, _, _, _, _, _, _, _, _, _, _, h1, h2⟩
theorem sg_eqb {z k : Int} (h : z.sign = k) : decide (z = 0) = ((k : Int) == 0) := by rw [← h, Bool.eq_iff_iff, decide_eq_true_iff, beq_iff_eq]; exact (sign0_iff z).symm
theorem cmp3_rev {z0 z1 z2 z3 z4 z5 : Int} : ((cmp3 (-z0) (-z1) (-z2) z3 z4 z5 : Int) == 0) = ((cmp3 z0 z1 z2 (-z3) (-z4) (-z5) : Int) == 0) := by
  have key : ∀ a b c d e f : Int, cmp3 a b c d e f = 0 ↔ a = d ∧ b = e ∧ c = f := fun a b c d e f => by
    unfold cmp3
    constructor
    · intro h
      split at h
      · split at h
        · have := (sign0_iff _).1 h; exact ⟨by assumption, by assumption, by omega⟩
        · have := (sign0_iff _).1 h; omega
      · have := (sign0_iff _).1 h; omega
    · rintro ⟨rfl, rfl, rfl⟩; rw [if_pos rfl, if_pos rfl, Int.sub_self]; rfl
  rw [Bool.eq_iff_iff, beq_iff_eq, beq_iff_eq, key, key]
  constructor <;> rintro ⟨h1, h2, h3⟩ <;> exact ⟨by omega, by omega, by omega⟩
theorem wp_cut_block {P : Program} {s : Code} {n : Nat} {K : Act → World → Prop} {Q' : Exit → Act → World → Prop} {a : Act} {w : World} (R : Act → World → Prop) (rest : ∀ a' w', R a' w' → K a' w')
    (first : ∀ K' : Act → World → Prop, (∀ a' w', R a' w' → K' a' w') → s.wp P (Exit.inBlock n (Exit.then K' Q')) a w) : s.wp P (Exit.inBlock n (Exit.then K Q')) a w := first K rest
set_option maxRecDepth 100000 in
set_option maxHeartbeats 16000000 in
theorem linerelates_any {v : Value} (HI : Ints w v) :
    Calls Tryz.prog 5 #[v] w fun e w' => e = .returned (.bool true) ∧ Below w.heap.size w w' := by
  go_enter Tryz.func5, Tryz.ntmps5
  go_wp2_with fail
  refine (new_any HI).mono ?_
  rintro e w1 ⟨rfl, hT, H0, hsz⟩
  have hlt : w.heap.size < w1.heap.size := by omega
  clear hsz HI
  go_wp2_with fail
  refine (tl_v hT hlt).mono ?_
  rintro e w2 ⟨z0, z1, z2, s21, A21, n21, c21, s22, A22, n22, c22, s23, A23, n23, c23, rfl, hsl7, g21, g22, g23, hT', hg⟩
  replace hlt := Nat.lt_of_lt_of_le hlt hg.size
  replace H0 := H0.grown hg H0.size (by rintro k hk; injection hk with hk; omega)
  clear hT
  have hT := hT'
  clear hT' hg
  go_wp2_with fail
  have V0 := Lib.hid hsl7.1
  clear hsl7
  refine (tl_v hT hlt).mono ?_
  rintro e w3 ⟨z3, z4, z5, s15, A15, n15, c15, s16, A16, n16, c16, s17, A17, n17, c17, rfl, hsl, g15, g16, g17, hT', hg⟩
  replace g21 := g21.tape hT hg
  replace g22 := g22.tape hT hg
  replace g23 := g23.tape hT hg
  replace hlt := Nat.lt_of_lt_of_le hlt hg.size
  replace H0 := H0.grown hg H0.size (by rintro k hk; injection hk with hk; omega)
  clear hT
  have hT := hT'
  clear hT' hg
  have V1 := Lib.hid hsl.1
  clear hsl
  have hl_4 := hlt
  obtain ⟨W4, hW, b4, b5, hbW, hszW4⟩ := boxes2 w3 #[.bool s21, .slice A21 n21 c21, .bool s22, .slice A22 n22 c22, .bool s23, .slice A23 n23 c23] #[.bool s15, .slice A15 n15 c15, .bool s16, .slice A16 n16 c16, .bool s17, .slice A17 n17 c17] 37 37
  skip
  skip
  replace g21 := g21.below hbW
  replace g22 := g22.below hbW
  replace g23 := g23.below hbW
  replace g15 := g15.below hbW
  replace g16 := g16.below hbW
  replace g17 := g17.below hbW
  replace hT := hT.keep hbW hlt
  replace hlt := Nat.lt_of_lt_of_le hlt hbW.size
  replace H0 := H0.trans (hbW.mono H0.size)
  clear hbW
  go_wp2_with fail
  clear hW
  clear hszW4
  refine (next_any 5 (by omega) (by omega) hT).mono ?_
  rintro e w5 ⟨r, rfl, hr, hT', hg⟩
  replace g21 := g21.tape hT hg
  replace g22 := g22.tape hT hg
  replace g23 := g23.tape hT hg
  replace g15 := g15.tape hT hg
  replace g16 := g16.tape hT hg
  replace g17 := g17.tape hT hg
  replace b4 := b4.other hg (by omega)
  replace b5 := b5.other hg (by omega)
  replace hlt := Nat.lt_of_lt_of_le hlt hg.size
  replace H0 := H0.grown hg H0.size (by rintro k hk; injection hk with hk; omega)
  clear hT
  have hT := hT'
  clear hT' hg
  clear hT hlt
  go_upto_if 20 with fail
  refine wp_cut_block (fun ax wx => ∃ u15 u16 u17 u18 u19 u20 u21 u22 u23 u24 u25 u26, ∃ z3' z4' z5' : Int, ∃ s9 A9 n9 c9 s10 A10 n10 c10 s11 A11 n11 c11, ax = ⟨#[v, undef, .bool false, .pointer (some ⟨w.heap.size, 0, none⟩), .pointer (some ⟨w3.heap.size, 0, none⟩), .pointer (some ⟨w3.heap.size + 1, 0, none⟩), undef, undef, undef, undef, undef, undef, v, .pointer (some ⟨w.heap.size, 0, none⟩), .pointer (some ⟨w.heap.size, 0, none⟩), u15, u16, u17, u18, u19, u20, u21, u22, u23, u24, u25, u26, undef, undef, undef, undef, undef, undef, undef, undef, undef, undef, undef, undef, undef, undef, undef, undef, undef, undef, undef, undef, undef, undef, undef, undef, undef, undef, undef, undef, undef, undef, undef, undef, undef, undef, undef, undef, undef, undef, undef, undef, undef, undef, undef, undef, undef, undef, undef, undef, undef, undef, undef, undef, undef, undef, undef, undef, undef, undef, undef, undef, undef, undef, undef, undef, undef, undef, undef, undef, undef, undef, undef, undef, undef, undef, undef, undef, undef, undef], []⟩ ∧ VL z3' z4' z5' ∧ NI wx s9 (.slice A9 n9 c9) z3' 1 ∧ NI wx s10 (.slice A10 n10 c10) z4' 1 ∧ NI wx s11 (.slice A11 n11 c11) z5' 1 ∧ NI wx s21 (.slice A21 n21 c21) z0 1 ∧ NI wx s22 (.slice A22 n22 c22) z1 1 ∧ NI wx s23 (.slice A23 n23 c23) z2 1 ∧ Box wx (w3.heap.size) #[.bool s21, .slice A21 n21 c21, .bool s22, .slice A22 n22 c22, .bool s23, .slice A23 n23 c23] 37 ∧ Box wx (w3.heap.size + 1) #[.bool s9, .slice A9 n9 c9, .bool s10, .slice A10 n10 c10, .bool s11, .slice A11 n11 c11] 37 ∧ Below w.heap.size w wx) ?rest ?first
  case rest =>
    clear V1 hr
    clear g15
    clear g16
    clear g17
    clear g21
    clear g22
    clear g23
    clear b4
    clear b5
    clear H0
    rintro ax wy ⟨u15, u16, u17, u18, u19, u20, u21, u22, u23, u24, u25, u26, z3, z4, z5, s15, A15, n15, c15, s16, A16, n16, c16, s17, A17, n17, c17, rfl, hv1, g15, g16, g17, g21, g22, g23, b4, b5, H0⟩
    have V1 := Lib.hid hv1
    clear hv1
    go_wp2_with fail
    by_cases hd : z0 * z4 - z1 * z3 = 0
    · have HD := Lib.hid hd
      obtain ⟨kp, hkp⟩ : ∃ k, (z0 * z4 - z1 * z3).sign = k := ⟨_, rfl⟩
      have HKP := Lib.hid hkp
      have HPB := Lib.hid (sg_eqb hkp)
      clear hkp hd
      obtain ⟨kc, hkc⟩ : ∃ k, cmp3 z0 z1 z2 z3 z4 z5 = k := ⟨_, rfl⟩
      have HKC := Lib.hid hkc
      clear hkc
      obtain ⟨ko, hko⟩ : ∃ k, cmp3 (-z0) (-z1) (-z2) z3 z4 z5 = k := ⟨_, rfl⟩
      obtain ⟨kr, hkr⟩ : ∃ k, cmp3 z0 z1 z2 (-z3) (-z4) (-z5) = k := ⟨_, rfl⟩
      have eor : ((ko : Int) == 0) = ((kr : Int) == 0) := by rw [← hko, ← hkr]; exact cmp3_rev
      have HKO := Lib.hid hko
      have HKR := Lib.hid hkr
      clear hko hkr
      have ec0 : ((((kc : Int) == 0)) == (((kc : Int) == 0))) = true := by simp
      have ec1 : ((((ko : Int) == 0)) == (((kr : Int) == 0))) = true := by rw [eor]; simp
      have ec2 : ((((kp : Int) == 0)) == (((kp : Int) == 0))) = true := by simp
      have ec3 : ((kc : Int) == kc) = true := by simp
      clear eor
      have lkb4 := b4.lt
      have lkb5 := b5.lt
      go_cut [6, 7] from 8 (fun s_6 s_7 wx => ∃ g70 g71 s18 A18 n18 c18 s19 A19 n19 c19 s20 A20 n20 c20 s12 A12 n12 c12 s13 A13 n13 c13 s14 A14 n14 c14, s_6 = .pointer (some ⟨g70, 0, none⟩) ∧ s_7 = .pointer (some ⟨g71, 0, none⟩) ∧ NI wx s18 (.slice A18 n18 c18) z0 1 ∧ NI wx s19 (.slice A19 n19 c19) z1 1 ∧ NI wx s20 (.slice A20 n20 c20) z2 1 ∧ NI wx s12 (.slice A12 n12 c12) z3 1 ∧ NI wx s13 (.slice A13 n13 c13) z4 1 ∧ NI wx s14 (.slice A14 n14 c14) z5 1 ∧ Box wx g70 #[.bool s18, .slice A18 n18 c18, .bool s19, .slice A19 n19 c19, .bool s20, .slice A20 n20 c20] 30 ∧ Box wx g71 #[.bool s12, .slice A12 n12 c12, .bool s13, .slice A13 n13 c13, .bool s14, .slice A14 n14 c14] 30 ∧ wy.heap.size ≤ g70 ∧ wy.heap.size ≤ g71 ∧ Below wy.heap.size wy wx)
      case first =>
        have lcb4_6 := b4.lt
        have lcb5_6 := b5.lt
        have hG := drawn_below wy
        refine wp_region_noPanic ?_
        refine wp_region_anyd (by kernel_rfl) ?_
        generalize wy.drew = v6 at hG ⊢
        refine wpAny_of_F (S := (fun V => V.cell? ⟨w3.heap.size, 0, none⟩ = some (.bool s21) ∧ V.cell? ⟨w3.heap.size, 1, none⟩ = some (.slice A21 n21 c21) ∧ V.cell? ⟨w3.heap.size, 2, none⟩ = some (.bool s22) ∧ V.cell? ⟨w3.heap.size, 3, none⟩ = some (.slice A22 n22 c22) ∧ V.cell? ⟨w3.heap.size, 4, none⟩ = some (.bool s23) ∧ V.cell? ⟨w3.heap.size, 5, none⟩ = some (.slice A23 n23 c23) ∧ V.cell? ⟨w3.heap.size + 1, 0, none⟩ = some (.bool s15) ∧ V.cell? ⟨w3.heap.size + 1, 1, none⟩ = some (.slice A15 n15 c15) ∧ V.cell? ⟨w3.heap.size + 1, 2, none⟩ = some (.bool s16) ∧ V.cell? ⟨w3.heap.size + 1, 3, none⟩ = some (.slice A16 n16 c16) ∧ V.cell? ⟨w3.heap.size + 1, 4, none⟩ = some (.bool s17) ∧ V.cell? ⟨w3.heap.size + 1, 5, none⟩ = some (.slice A17 n17 c17))) (F := (fun j => j == 6 || j == 7)) _ _ _ _ ?_
        refine wpAnyF_take (i := 0) (v := ?_) (fun j => j == 1 || j == 3 || j == 6 || j == 7) rfl (by kernel_rfl) (by kernel_rfl) (by kernel_rfl) (by kernel_rfl) (fun j hj => by have h6 : 8 ≤ j := hj; simp; omega) (fun _ _ _ h => h) (Or.inl ⟨by rfl, ?_⟩) ((b4.below hG).and6 ((b5.below hG).all6)) ?_
        rotate_left
        · (intro w hSw; (try dsimp only at hSw); go_simp; (try with_reducible rfl))
        (try simp only [getElem_toArray, getElem_cons_zero, Act.put, setIfInBounds_toArray, set_cons_zero, set_cons_succ])
        refine wpAnyF_take (i := 2) (v := ?_) (fun j => j == 3 || j == 6 || j == 7) rfl (by kernel_rfl) (by kernel_rfl) (by kernel_rfl) (by kernel_rfl) (fun j hj => by have h6 : 8 ≤ j := hj; simp; omega) (fun _ _ _ h => h) (Or.inl ⟨by rfl, ?_⟩) ((b4.below hG).and6 ((b5.below hG).all6)) ?_
        rotate_left
        · (intro w hSw; (try dsimp only at hSw); go_simp; (try with_reducible rfl))
        (try simp only [getElem_toArray, getElem_cons_succ, getElem_cons_zero, Act.put, setIfInBounds_toArray, set_cons_zero, set_cons_succ])
        refine wpAnyF_name (n' := 6) (l' := #[true, false, true, false, false, false, false, false]) (by kernel_rfl) (by kernel_rfl) (fun Ac_ hA => ?_)
        refine wpAnyF_phase (rs := [1, 3, 4, 5]) (full := #[true, true, true, true, true, true, false, false]) (states := [#[true, false, true, false, false, false, false, false], #[true, true, true, false, false, false, false, false], #[true, false, true, false, true, false, false, false], #[true, false, true, false, false, true, false, false], #[true, true, true, false, false, true, false, false], #[true, false, true, false, true, true, false, false], #[true, true, true, false, true, true, false, false], #[true, true, true, true, true, true, false, false], #[true, true, true, true, false, true, false, false], #[true, true, true, false, true, false, false, false], #[true, true, true, true, true, false, false, false], #[true, true, true, true, false, false, false, false]]) (k := 2) (I := fun listed a w => ∃ (y1_ y3_ y4_ y5_ : Value), a = ((((Ac_.put (some 28) y1_).put (some 30) y3_).put (some 6) y4_).put (some 7) y5_) ∧ Below wy.heap.size wy w ∧ (listed.getD 1 false = true → ∃ s18 A18 n18 c18 s19 A19 n19 c19 s20 A20 n20 c20, y1_ = .agg #[.bool s18, .slice A18 n18 c18, .bool s19, .slice A19 n19 c19, .bool s20, .slice A20 n20 c20] ∧ NI w s18 (.slice A18 n18 c18) z0 1 ∧ NI w s19 (.slice A19 n19 c19) z1 1 ∧ NI w s20 (.slice A20 n20 c20) z2 1) ∧ (listed.getD 3 false = true → ∃ s12 A12 n12 c12 s13 A13 n13 c13 s14 A14 n14 c14, y3_ = .agg #[.bool s12, .slice A12 n12 c12, .bool s13, .slice A13 n13 c13, .bool s14, .slice A14 n14 c14] ∧ NI w s12 (.slice A12 n12 c12) z3 1 ∧ NI w s13 (.slice A13 n13 c13) z4 1 ∧ NI w s14 (.slice A14 n14 c14) z5 1) ∧ (listed.getD 4 false = true → ∃ g0_, y4_ = .pointer (some ⟨g0_, 0, none⟩) ∧ Box w g0_ #[.bool false, .slice none 0 0, .bool false, .slice none 0 0, .bool false, .slice none 0 0] 30 ∧ wy.heap.size ≤ g0_) ∧ (listed.getD 5 false = true → ∃ g1_, y5_ = .pointer (some ⟨g1_, 0, none⟩) ∧ Box w g1_ #[.bool false, .slice none 0 0, .bool false, .slice none 0 0, .bool false, .slice none 0 0] 30 ∧ wy.heap.size ≤ g1_) ∧ (listed.getD 4 false = true → listed.getD 5 false = true → y4_ ≠ y5_)) (by kernel_rfl) (by kernel_rfl) ?_ ?_ _ _ _ _ (by kernel_rfl) (by kernel_rfl) ⟨Ac_.tmps.getD 28 undef, Ac_.tmps.getD 30 undef, Ac_.tmps.getD 6 undef, Ac_.tmps.getD 7 undef, by subst hA; kernel_rfl, hG, fun h => (by cases h), fun h => (by cases h), fun h => (by cases h), fun h => (by cases h), fun h => (by cases h)⟩
        · refine (AllStepsF.cons (i := 1) (o := _) rfl rfl ?_ (AllStepsF.cons (i := 3) (o := _) rfl rfl ?_ (AllStepsF.cons (i := 4) (o := _) rfl rfl ?_ (AllStepsF.cons (i := 5) (o := _) rfl rfl ?_ AllStepsF.nil))))
          · rintro listed a wx ⟨y1_, y3_, y4_, y5_, rfl, hG, H1_, H3_, H4_, H5_, D4_5⟩ hi K hK
            subst hA
            (try simp only [Act.put, List.setIfInBounds_toArray, List.set_cons_zero, List.set_cons_succ])
            go_simp
            go_at_call 23
            refine (gtol_v (g21.below hG) (g22.below hG) (g23.below hG) (by decide)).mono ?_
            rintro e X ⟨s18, A18, n18, c18, s19, A19, n19, c19, s20, A20, n20, c20, rfl, g18, g19, g20, hb9⟩
            go_wp2_with fail
            have hG9 := hG.trans (hb9.mono hG.size)
            refine hK.out _ _ ((b4.below hG9).and6 ((b5.below hG9).all6)) ?_
            clear hK K
            exact ⟨_, y3_, y4_, y5_, by kernel_rfl, hG9, fun _ => ⟨s18, A18, n18, c18, s19, A19, n19, c19, s20, A20, n20, c20, rfl, g18, g19, g20⟩, fun h => by obtain ⟨s12, A12, n12, c12, s13, A13, n13, c13, s14, A14, n14, c14, e_, g12', g13', g14'⟩ := H3_ (set_dep (by decide) h); exact ⟨s12, A12, n12, c12, s13, A13, n13, c13, s14, A14, n14, c14, e_, g12'.below hb9, g13'.below hb9, g14'.below hb9⟩, fun h => by obtain ⟨g0_, e_, bx0', hl0'⟩ := H4_ (set_dep (by decide) h); exact ⟨g0_, e_, bx0'.below hb9, hl0'⟩, fun h => by obtain ⟨g1_, e_, bx1', hl1'⟩ := H5_ (set_dep (by decide) h); exact ⟨g1_, e_, bx1'.below hb9, hl1'⟩, fun h h9 => D4_5 (set_dep (by decide) h) (set_dep (by decide) h9)⟩
          · rintro listed a wx ⟨y1_, y3_, y4_, y5_, rfl, hG, H1_, H3_, H4_, H5_, D4_5⟩ hi K hK
            subst hA
            (try simp only [Act.put, List.setIfInBounds_toArray, List.set_cons_zero, List.set_cons_succ])
            go_simp
            go_at_call 23
            refine (gtol_v (g15.below hG) (g16.below hG) (g17.below hG) (by decide)).mono ?_
            rintro e X ⟨s12, A12, n12, c12, s13, A13, n13, c13, s14, A14, n14, c14, rfl, g12, g13, g14, hb9⟩
            go_wp2_with fail
            have hG9 := hG.trans (hb9.mono hG.size)
            refine hK.out _ _ ((b4.below hG9).and6 ((b5.below hG9).all6)) ?_
            clear hK K
            exact ⟨y1_, _, y4_, y5_, by kernel_rfl, hG9, fun h => by obtain ⟨s18, A18, n18, c18, s19, A19, n19, c19, s20, A20, n20, c20, e_, g18', g19', g20'⟩ := H1_ (set_dep (by decide) h); exact ⟨s18, A18, n18, c18, s19, A19, n19, c19, s20, A20, n20, c20, e_, g18'.below hb9, g19'.below hb9, g20'.below hb9⟩, fun _ => ⟨s12, A12, n12, c12, s13, A13, n13, c13, s14, A14, n14, c14, rfl, g12, g13, g14⟩, fun h => by obtain ⟨g0_, e_, bx0', hl0'⟩ := H4_ (set_dep (by decide) h); exact ⟨g0_, e_, bx0'.below hb9, hl0'⟩, fun h => by obtain ⟨g1_, e_, bx1', hl1'⟩ := H5_ (set_dep (by decide) h); exact ⟨g1_, e_, bx1'.below hb9, hl1'⟩, fun h h9 => D4_5 (set_dep (by decide) h) (set_dep (by decide) h9)⟩
          · rintro listed a wx ⟨y1_, y3_, y4_, y5_, rfl, hG, H1_, H3_, H4_, H5_, D4_5⟩ hi K hK
            subst hA
            (try simp only [Act.put, List.setIfInBounds_toArray, List.set_cons_zero, List.set_cons_succ])
            go_simp
            obtain ⟨X, hV, bx0, hb9, sz9⟩ := boxes1 wx #[.bool false, .slice none 0 0, .bool false, .slice none 0 0, .bool false, .slice none 0 0] 30
            rw [hV]
            clear hV
            have hl0 : wy.heap.size ≤ wx.heap.size := hG.size
            have hG9 := hG.trans (hb9.mono hG.size)
            refine hK.out _ _ ((b4.below hG9).and6 ((b5.below hG9).all6)) ?_
            clear hK K
            exact ⟨y1_, y3_, _, y5_, by kernel_rfl, hG9, fun h => by obtain ⟨s18, A18, n18, c18, s19, A19, n19, c19, s20, A20, n20, c20, e_, g18', g19', g20'⟩ := H1_ (set_dep (by decide) h); exact ⟨s18, A18, n18, c18, s19, A19, n19, c19, s20, A20, n20, c20, e_, g18'.below hb9, g19'.below hb9, g20'.below hb9⟩, fun h => by obtain ⟨s12, A12, n12, c12, s13, A13, n13, c13, s14, A14, n14, c14, e_, g12', g13', g14'⟩ := H3_ (set_dep (by decide) h); exact ⟨s12, A12, n12, c12, s13, A13, n13, c13, s14, A14, n14, c14, e_, g12'.below hb9, g13'.below hb9, g14'.below hb9⟩, fun _ => ⟨_, rfl, bx0, hl0⟩, fun h => by obtain ⟨g1_, e_, bx1', hl1'⟩ := H5_ (set_dep (by decide) h); exact ⟨g1_, e_, bx1'.below hb9, hl1'⟩, fun _ h => by obtain ⟨g1_, e_, bx_, _⟩ := H5_ (set_dep (by decide) h); rw [e_]; have lx_ := bx_.lt; intro heq; injection heq with heq; injection heq with heq; injection heq with heq; omega⟩
          · rintro listed a wx ⟨y1_, y3_, y4_, y5_, rfl, hG, H1_, H3_, H4_, H5_, D4_5⟩ hi K hK
            subst hA
            (try simp only [Act.put, List.setIfInBounds_toArray, List.set_cons_zero, List.set_cons_succ])
            go_simp
            obtain ⟨X, hV, bx1, hb9, sz9⟩ := boxes1 wx #[.bool false, .slice none 0 0, .bool false, .slice none 0 0, .bool false, .slice none 0 0] 30
            rw [hV]
            clear hV
            have hl1 : wy.heap.size ≤ wx.heap.size := hG.size
            have hG9 := hG.trans (hb9.mono hG.size)
            refine hK.out _ _ ((b4.below hG9).and6 ((b5.below hG9).all6)) ?_
            clear hK K
            exact ⟨y1_, y3_, y4_, _, by kernel_rfl, hG9, fun h => by obtain ⟨s18, A18, n18, c18, s19, A19, n19, c19, s20, A20, n20, c20, e_, g18', g19', g20'⟩ := H1_ (set_dep (by decide) h); exact ⟨s18, A18, n18, c18, s19, A19, n19, c19, s20, A20, n20, c20, e_, g18'.below hb9, g19'.below hb9, g20'.below hb9⟩, fun h => by obtain ⟨s12, A12, n12, c12, s13, A13, n13, c13, s14, A14, n14, c14, e_, g12', g13', g14'⟩ := H3_ (set_dep (by decide) h); exact ⟨s12, A12, n12, c12, s13, A13, n13, c13, s14, A14, n14, c14, e_, g12'.below hb9, g13'.below hb9, g14'.below hb9⟩, fun h => by obtain ⟨g0_, e_, bx0', hl0'⟩ := H4_ (set_dep (by decide) h); exact ⟨g0_, e_, bx0'.below hb9, hl0'⟩, fun _ => ⟨_, rfl, bx1, hl1⟩, fun h _ => by obtain ⟨g0_, e_, bx_, _⟩ := H4_ (set_dep (by decide) h); rw [e_]; have lx_ := bx_.lt; intro heq; injection heq with heq; injection heq with heq; injection heq with heq; omega⟩
        · rintro a wf ⟨y1_, y3_, y4_, y5_, rfl, hG, H1_, H3_, H4_, H5_, D4_5⟩
          have d4_5 := D4_5 rfl rfl
          obtain ⟨s18, A18, n18, c18, s19, A19, n19, c19, s20, A20, n20, c20, rfl, g18, g19, g20⟩ := H1_ rfl
          obtain ⟨s12, A12, n12, c12, s13, A13, n13, c13, s14, A14, n14, c14, rfl, g12, g13, g14⟩ := H3_ rfl
          obtain ⟨g0_, rfl, bx0, hl0⟩ := H4_ rfl
          obtain ⟨g1_, rfl, bx1, hl1⟩ := H5_ rfl
          clear D4_5
          subst hA
          (try simp only [Act.put, List.setIfInBounds_toArray, List.set_cons_zero, List.set_cons_succ])
          have hne01 : g0_ ≠ g1_ := fun h => d4_5 (by rw [h])
          clear d4_5
          have H0 := hG
          obtain ⟨cbx00, ybx00, cbx01, ybx01, cbx02, ybx02, cbx03, ybx03, cbx04, ybx04, cbx05, ybx05⟩ := bx0.cf6
          refine wpAnyF_last (i := 6) (by kernel_rfl) rfl rfl (fun K hK => ?_)
          go_simp
          refine hK.out _ _ ?_
          clear hK K
          (try simp only [List.setIfInBounds_toArray, List.set_cons_zero, List.set_cons_succ])
          clear cbx00 ybx00 cbx01 ybx01 cbx02 ybx02 cbx03 ybx03 cbx04 ybx04 cbx05 ybx05
          have hg := only_store6 wf (g0_) (.bool s18) (.slice A18 n18 c18) (.bool s19) (.slice A19 n19 c19) (.bool s20) (.slice A20 n20 c20)
          have hB := bx0.stored6 (.bool s18) (.slice A18 n18 c18) (.bool s19) (.slice A19 n19 c19) (.bool s20) (.slice A20 n20 c20)
          generalize hX : ((((((wf.setCell ⟨g0_, 0, none⟩ (.bool s18)).setCell ⟨g0_, 1, none⟩ (.slice A18 n18 c18)).setCell ⟨g0_, 2, none⟩ (.bool s19)).setCell ⟨g0_, 3, none⟩ (.slice A19 n19 c19)).setCell ⟨g0_, 4, none⟩ (.bool s20)).setCell ⟨g0_, 5, none⟩ (.slice A20 n20 c20)) = X57 at hg hB ⊢
          clear hX
          replace g18 := g18.kept bx0 (by simp [notInt]) hg
          replace g19 := g19.kept bx0 (by simp [notInt]) hg
          replace g20 := g20.kept bx0 (by simp [notInt]) hg
          replace g12 := g12.kept bx0 (by simp [notInt]) hg
          replace g13 := g13.kept bx0 (by simp [notInt]) hg
          replace g14 := g14.kept bx0 (by simp [notInt]) hg
          replace bx1 := bx1.other hg (by omega)
          replace bx0 := hB
          replace H0 := below_only H0 hg (by omega) H0.size
          clear hg hB
          obtain ⟨cbx10, ybx10, cbx11, ybx11, cbx12, ybx12, cbx13, ybx13, cbx14, ybx14, cbx15, ybx15⟩ := bx1.cf6
          refine wpAny_one (i := 7) (by kernel_rfl) rfl (fun K hK => ?_)
          go_simp
          refine hK.out _ _ ?_
          clear hK K
          (try simp only [List.setIfInBounds_toArray, List.set_cons_zero, List.set_cons_succ])
          clear cbx10 ybx10 cbx11 ybx11 cbx12 ybx12 cbx13 ybx13 cbx14 ybx14 cbx15 ybx15
          have hg := only_store6 X57 (g1_) (.bool s12) (.slice A12 n12 c12) (.bool s13) (.slice A13 n13 c13) (.bool s14) (.slice A14 n14 c14)
          have hB := bx1.stored6 (.bool s12) (.slice A12 n12 c12) (.bool s13) (.slice A13 n13 c13) (.bool s14) (.slice A14 n14 c14)
          generalize hX : ((((((X57.setCell ⟨g1_, 0, none⟩ (.bool s12)).setCell ⟨g1_, 1, none⟩ (.slice A12 n12 c12)).setCell ⟨g1_, 2, none⟩ (.bool s13)).setCell ⟨g1_, 3, none⟩ (.slice A13 n13 c13)).setCell ⟨g1_, 4, none⟩ (.bool s14)).setCell ⟨g1_, 5, none⟩ (.slice A14 n14 c14)) = X58 at hg hB ⊢
          clear hX
          replace g18 := g18.kept bx1 (by simp [notInt]) hg
          replace g19 := g19.kept bx1 (by simp [notInt]) hg
          replace g20 := g20.kept bx1 (by simp [notInt]) hg
          replace g12 := g12.kept bx1 (by simp [notInt]) hg
          replace g13 := g13.kept bx1 (by simp [notInt]) hg
          replace g14 := g14.kept bx1 (by simp [notInt]) hg
          replace bx0 := bx0.other hg (by omega)
          replace bx1 := hB
          replace H0 := below_only H0 hg (by omega) H0.size
          clear hg hB
          refine wpAny_done (by kernel_rfl) ?_ _
          refine NoPanic.normal ?_
          go_wp2_with fail
          go_meet
          exact ⟨g0_, g1_, s18, A18, n18, c18, s19, A19, n19, c19, s20, A20, n20, c20, s12, A12, n12, c12, s13, A13, n13, c13, s14, A14, n14, c14, rfl, rfl, g18, g19, g20, g12, g13, g14, bx0, bx1, hl0, hl1, H0⟩
      case rest =>
        obtain ⟨g70, g71, s18, A18, n18, c18, s19, A19, n19, c19, s20, A20, n20, c20, s12, A12, n12, c12, s13, A13, n13, c13, s14, A14, n14, c14, rfl, rfl, g18, g19, g20, g12, g13, g14, b6, b7, ml0, ml1, hG⟩ := hcut
        replace g15 := g15.below hG
        replace g16 := g16.below hG
        replace g17 := g17.below hG
        replace g21 := g21.below hG
        replace g22 := g22.below hG
        replace g23 := g23.below hG
        replace b4 := b4.below hG
        replace b5 := b5.below hG
        replace H0 := H0.trans (hG.mono H0.size)
        clear hG
        obtain ⟨cb60, cb61, cb62, cb63, cb64, cb65⟩ := b6.cells6
        obtain ⟨cb70, cb71, cb72, cb73, cb74, cb75⟩ := b7.cells6
        go_wp2_with fail
        clear cb60 cb61 cb62 cb63 cb64 cb65 cb70 cb71 cb72 cb73 cb74 cb75
        refine (lmeet_zo g18 g19 g20 V0.out g12 g13 g14 V1.out HD.out (by decide)).mono ?_
        rintro e w506 ⟨s0, A0, n0, c0, D0, m0, e0, s1, A1, n1, c1, D1, m1, e1, rfl, k0, k1, hb⟩
        replace g15 := g15.below hb
        replace g16 := g16.below hb
        replace g17 := g17.below hb
        replace g21 := g21.below hb
        replace g22 := g22.below hb
        replace g23 := g23.below hb
        replace g18 := g18.below hb
        replace g19 := g19.below hb
        replace g20 := g20.below hb
        replace g12 := g12.below hb
        replace g13 := g13.below hb
        replace g14 := g14.below hb
        replace b4 := b4.below hb
        replace b5 := b5.below hb
        replace b6 := b6.below hb
        replace b7 := b7.below hb
        replace H0 := H0.trans (hb.mono H0.size)
        clear hb
        have lb4_507 := b4.lt
        have lb5_507 := b5.lt
        have lb6_507 := b6.lt
        have lb7_507 := b7.lt
        obtain ⟨W507, hW, b8, hbW, hszW507⟩ := boxes1 w506 #[.bool s0, .slice A0 n0 c0, .slice D0 m0 e0, .bool s1, .slice A1 n1 c1, .slice D1 m1 e1] 54
        skip
        skip
        replace g15 := g15.below hbW
        replace g16 := g16.below hbW
        replace g17 := g17.below hbW
        replace g21 := g21.below hbW
        replace g22 := g22.below hbW
        replace g23 := g23.below hbW
        replace g18 := g18.below hbW
        replace g19 := g19.below hbW
        replace g20 := g20.below hbW
        replace g12 := g12.below hbW
        replace g13 := g13.below hbW
        replace g14 := g14.below hbW
        replace k0 := k0.below hbW
        replace k1 := k1.below hbW
        replace b4 := b4.below hbW
        replace b5 := b5.below hbW
        replace b6 := b6.below hbW
        replace b7 := b7.below hbW
        replace H0 := H0.trans (hbW.mono H0.size)
        clear hbW
        obtain ⟨cb40, cb41, cb42, cb43, cb44, cb45⟩ := b4.cells6
        obtain ⟨cb50, cb51, cb52, cb53, cb54, cb55⟩ := b5.cells6
        go_wp2_with fail
        clear hW
        clear hszW507
        clear cb40 cb41 cb42 cb43 cb44 cb45 cb50 cb51 cb52 cb53 cb54 cb55
        refine (gmeet_zo (g21.more (by decide)) (g22.more (by decide)) (g23.more (by decide)) (g15.more (by decide)) (g16.more (by decide)) (g17.more (by decide)) HD.out).mono ?_
        rintro e w508 ⟨s2, A2, n2, c2, D2, m2, e2, s3, A3, n3, c3, D3, m3, e3, rfl, hb⟩
        replace g15 := g15.below hb
        replace g16 := g16.below hb
        replace g17 := g17.below hb
        replace g21 := g21.below hb
        replace g22 := g22.below hb
        replace g23 := g23.below hb
        replace g18 := g18.below hb
        replace g19 := g19.below hb
        replace g20 := g20.below hb
        replace g12 := g12.below hb
        replace g13 := g13.below hb
        replace g14 := g14.below hb
        replace k0 := k0.below hb
        replace k1 := k1.below hb
        replace b4 := b4.below hb
        replace b5 := b5.below hb
        replace b6 := b6.below hb
        replace b7 := b7.below hb
        replace b8 := b8.below hb
        replace H0 := H0.trans (hb.mono H0.size)
        clear hb
        have lb4_509 := b4.lt
        have lb5_509 := b5.lt
        have lb6_509 := b6.lt
        have lb7_509 := b7.lt
        have lb8_509 := b8.lt
        obtain ⟨W509, hW, b10, hbW, hszW509⟩ := boxes1 w508 #[.bool s2, .slice A2 n2 c2, .slice D2 m2 e2, .bool s3, .slice A3 n3 c3, .slice D3 m3 e3] 48
        skip
        skip
        replace g15 := g15.below hbW
        replace g16 := g16.below hbW
        replace g17 := g17.below hbW
        replace g21 := g21.below hbW
        replace g22 := g22.below hbW
        replace g23 := g23.below hbW
        replace g18 := g18.below hbW
        replace g19 := g19.below hbW
        replace g20 := g20.below hbW
        replace g12 := g12.below hbW
        replace g13 := g13.below hbW
        replace g14 := g14.below hbW
        replace k0 := k0.below hbW
        replace k1 := k1.below hbW
        replace b4 := b4.below hbW
        replace b5 := b5.below hbW
        replace b6 := b6.below hbW
        replace b7 := b7.below hbW
        replace b8 := b8.below hbW
        replace H0 := H0.trans (hbW.mono H0.size)
        clear hbW
        obtain ⟨cb80, cb81, cb82, cb83, cb84, cb85⟩ := b8.cells6
        go_wp2_with fail
        clear hW
        clear hszW509
        clear cb80 cb81 cb82 cb83 cb84 cb85
        refine (samep_zo k0 k1).mono ?_
        rintro e w510 ⟨rfl, hb⟩
        replace g15 := g15.below hb
        replace g16 := g16.below hb
        replace g17 := g17.below hb
        replace g21 := g21.below hb
        replace g22 := g22.below hb
        replace g23 := g23.below hb
        replace g18 := g18.below hb
        replace g19 := g19.below hb
        replace g20 := g20.below hb
        replace g12 := g12.below hb
        replace g13 := g13.below hb
        replace g14 := g14.below hb
        replace k0 := k0.below hb
        replace k1 := k1.below hb
        replace b4 := b4.below hb
        replace b5 := b5.below hb
        replace b6 := b6.below hb
        replace b7 := b7.below hb
        replace b8 := b8.below hb
        replace b10 := b10.below hb
        replace H0 := H0.trans (hb.mono H0.size)
        clear hb
        clear k0
        clear k1
        clear b8
        clear b10
        go_wp2_with fail
        have hD := drawn_below w510
        replace g15 := g15.below hD
        replace g16 := g16.below hD
        replace g17 := g17.below hD
        replace g21 := g21.below hD
        replace g22 := g22.below hD
        replace g23 := g23.below hD
        replace g18 := g18.below hD
        replace g19 := g19.below hD
        replace g20 := g20.below hD
        replace g12 := g12.below hD
        replace g13 := g13.below hD
        replace g14 := g14.below hD
        replace b4 := b4.below hD
        replace b5 := b5.below hD
        replace b6 := b6.below hD
        replace b7 := b7.below hD
        replace H0 := H0.trans (hD.mono H0.size)
        clear hD
        refine wp_region_noPanic ?_
        refine wp_region_held_drew (S := (fun V => V.cell? ⟨w3.heap.size, 0, none⟩ = some (.bool s21) ∧ V.cell? ⟨w3.heap.size, 1, none⟩ = some (.slice A21 n21 c21) ∧ V.cell? ⟨w3.heap.size, 2, none⟩ = some (.bool s22) ∧ V.cell? ⟨w3.heap.size, 3, none⟩ = some (.slice A22 n22 c22) ∧ V.cell? ⟨w3.heap.size, 4, none⟩ = some (.bool s23) ∧ V.cell? ⟨w3.heap.size, 5, none⟩ = some (.slice A23 n23 c23) ∧ V.cell? ⟨w3.heap.size + 1, 0, none⟩ = some (.bool s15) ∧ V.cell? ⟨w3.heap.size + 1, 1, none⟩ = some (.slice A15 n15 c15) ∧ V.cell? ⟨w3.heap.size + 1, 2, none⟩ = some (.bool s16) ∧ V.cell? ⟨w3.heap.size + 1, 3, none⟩ = some (.slice A16 n16 c16) ∧ V.cell? ⟨w3.heap.size + 1, 4, none⟩ = some (.bool s17) ∧ V.cell? ⟨w3.heap.size + 1, 5, none⟩ = some (.slice A17 n17 c17) ∧ V.cell? ⟨g70, 0, none⟩ = some (.bool s18) ∧ V.cell? ⟨g70, 1, none⟩ = some (.slice A18 n18 c18) ∧ V.cell? ⟨g70, 2, none⟩ = some (.bool s19) ∧ V.cell? ⟨g70, 3, none⟩ = some (.slice A19 n19 c19) ∧ V.cell? ⟨g70, 4, none⟩ = some (.bool s20) ∧ V.cell? ⟨g70, 5, none⟩ = some (.slice A20 n20 c20) ∧ V.cell? ⟨g71, 0, none⟩ = some (.bool s12) ∧ V.cell? ⟨g71, 1, none⟩ = some (.slice A12 n12 c12) ∧ V.cell? ⟨g71, 2, none⟩ = some (.bool s13) ∧ V.cell? ⟨g71, 3, none⟩ = some (.slice A13 n13 c13) ∧ V.cell? ⟨g71, 4, none⟩ = some (.bool s14) ∧ V.cell? ⟨g71, 5, none⟩ = some (.slice A14 n14 c14))) (by kernel_rfl) (b4.and6 (b5.and6 (b6.and6 (b7.all6)))) (fun hHeld => ?_)
        generalize w510.drew = v511 at H0 hHeld g15 g16 g17 g21 g22 g23 g18 g19 g20 g12 g13 g14 b4 b5 b6 b7 ⊢
        refine rd1 0 (by kernel_rfl) rfl (fun K hK => ?_)
        go_simp
        go_at_call 10
        refine (known5_any).mono ?_
        rintro e w512 ⟨rfl, hb⟩
        replace g15 := g15.below hb
        replace g16 := g16.below hb
        replace g17 := g17.below hb
        replace g21 := g21.below hb
        replace g22 := g22.below hb
        replace g23 := g23.below hb
        replace g18 := g18.below hb
        replace g19 := g19.below hb
        replace g20 := g20.below hb
        replace g12 := g12.below hb
        replace g13 := g13.below hb
        replace g14 := g14.below hb
        replace b4 := b4.below hb
        replace b5 := b5.below hb
        replace b6 := b6.below hb
        replace b7 := b7.below hb
        replace H0 := H0.trans (hb.mono H0.size)
        clear hb
        go_wp2_with fail
        refine hK.out _ _ (b4.and6 (b5.and6 (b6.and6 (b7.all6)))) (fun hHeld => ?_)
        clear hK K
        (try simp only [getElem_toArray, getElem_cons_succ, getElem_cons_zero, Act.put, setIfInBounds_toArray, set_cons_zero, set_cons_succ])
        refine tk 1 ?_ rfl (by kernel_rfl) (by kernel_rfl) (by kernel_rfl) (fun _ _ _ h => h) (by rfl) ?_ (by assumption) ?_
        rotate_left
        · (intro w hSw; (try dsimp only at hSw); go_simp; (try with_reducible rfl))
        (try simp only [getElem_toArray, getElem_cons_succ, getElem_cons_zero, Act.put, setIfInBounds_toArray, set_cons_zero, set_cons_succ])
        refine tk 2 ?_ rfl (by kernel_rfl) (by kernel_rfl) (by kernel_rfl) (fun _ _ _ h => h) (by rfl) ?_ (by assumption) ?_
        rotate_left
        · (intro w hSw; (try dsimp only at hSw); go_simp; (try with_reducible rfl))
        (try simp only [getElem_toArray, getElem_cons_succ, getElem_cons_zero, Act.put, setIfInBounds_toArray, set_cons_zero, set_cons_succ])
        refine tk 3 ?_ rfl (by kernel_rfl) (by kernel_rfl) (by kernel_rfl) (fun _ _ _ h => h) (by rfl) ?_ (by assumption) ?_
        rotate_left
        · (intro w hSw; (try dsimp only at hSw); go_simp; (try with_reducible rfl))
        (try simp only [getElem_toArray, getElem_cons_succ, getElem_cons_zero, Act.put, setIfInBounds_toArray, set_cons_zero, set_cons_succ])
        refine tk 5 ?_ rfl (by kernel_rfl) (by kernel_rfl) (by kernel_rfl) (fun _ _ _ h => h) (by rfl) ?_ (by assumption) ?_
        rotate_left
        · (intro w hSw; (try dsimp only at hSw); go_simp; (try with_reducible rfl))
        (try simp only [getElem_toArray, getElem_cons_succ, getElem_cons_zero, Act.put, setIfInBounds_toArray, set_cons_zero, set_cons_succ])
        refine tk 6 ?_ rfl (by kernel_rfl) (by kernel_rfl) (by kernel_rfl) (fun _ _ _ h => h) (by rfl) ?_ (by assumption) ?_
        rotate_left
        · (intro w hSw; (try dsimp only at hSw); go_simp; (try with_reducible rfl))
        (try simp only [getElem_toArray, getElem_cons_succ, getElem_cons_zero, Act.put, setIfInBounds_toArray, set_cons_zero, set_cons_succ])
        refine rd1 4 (by kernel_rfl) rfl (fun K hK => ?_)
        go_simp
        go_at_call 44
        refine (lsame_v g18 g19 g20 V0.out g12 g13 g14 V1.out HKC.out (by decide)).mono ?_
        rintro e w513 ⟨rfl, hb⟩
        replace g15 := g15.below hb
        replace g16 := g16.below hb
        replace g17 := g17.below hb
        replace g21 := g21.below hb
        replace g22 := g22.below hb
        replace g23 := g23.below hb
        replace g18 := g18.below hb
        replace g19 := g19.below hb
        replace g20 := g20.below hb
        replace g12 := g12.below hb
        replace g13 := g13.below hb
        replace g14 := g14.below hb
        replace b4 := b4.below hb
        replace b5 := b5.below hb
        replace b6 := b6.below hb
        replace b7 := b7.below hb
        replace H0 := H0.trans (hb.mono H0.size)
        clear hb
        go_wp2_with fail
        refine hK.out _ _ (b4.and6 (b5.and6 (b6.and6 (b7.all6)))) (fun hHeld => ?_)
        clear hK K
        (try simp only [getElem_toArray, getElem_cons_succ, getElem_cons_zero, Act.put, setIfInBounds_toArray, set_cons_zero, set_cons_succ])
        refine rd1 7 (by kernel_rfl) rfl (fun K hK => ?_)
        go_simp
        go_at_call 45
        refine (gcmp_v g21 g22 g23 g15 g16 g17 HKC.out (by decide) (by decide)).mono ?_
        rintro e w514 ⟨rfl, hb⟩
        replace g15 := g15.below hb
        replace g16 := g16.below hb
        replace g17 := g17.below hb
        replace g21 := g21.below hb
        replace g22 := g22.below hb
        replace g23 := g23.below hb
        replace g18 := g18.below hb
        replace g19 := g19.below hb
        replace g20 := g20.below hb
        replace g12 := g12.below hb
        replace g13 := g13.below hb
        replace g14 := g14.below hb
        replace b4 := b4.below hb
        replace b5 := b5.below hb
        replace b6 := b6.below hb
        replace b7 := b7.below hb
        replace H0 := H0.trans (hb.mono H0.size)
        clear hb
        go_wp2_with fail
        refine hK.out _ _ (b4.and6 (b5.and6 (b6.and6 (b7.all6)))) (fun hHeld => ?_)
        clear hK K
        (try simp only [getElem_toArray, getElem_cons_succ, getElem_cons_zero, Act.put, setIfInBounds_toArray, set_cons_zero, set_cons_succ])
        refine tk 8 ?_ rfl (by kernel_rfl) (by kernel_rfl) (by kernel_rfl) (fun _ _ _ h => h) (by rfl) ?_ (by assumption) ?_
        rotate_left
        · (intro w hSw; (try dsimp only at hSw); go_simp; (try with_reducible rfl))
        (try simp only [getElem_toArray, getElem_cons_succ, getElem_cons_zero, Act.put, setIfInBounds_toArray, set_cons_zero, set_cons_succ])
        refine tk 9 ?_ rfl (by kernel_rfl) (by kernel_rfl) (by kernel_rfl) (fun _ _ _ h => h) (by rfl) ?_ (by assumption) ?_
        rotate_left
        · (intro w hSw; (try dsimp only at hSw); go_simp; (try with_reducible rfl))
        (try simp only [getElem_toArray, getElem_cons_succ, getElem_cons_zero, Act.put, setIfInBounds_toArray, set_cons_zero, set_cons_succ])
        refine tk 10 ?_ rfl (by kernel_rfl) (by kernel_rfl) (by kernel_rfl) (fun _ _ _ h => h) (by rfl) ?_ (by assumption) ?_
        rotate_left
        · (intro w hSw; (try dsimp only at hSw); go_simp; (try with_reducible rfl))
        (try simp only [getElem_toArray, getElem_cons_succ, getElem_cons_zero, Act.put, setIfInBounds_toArray, set_cons_zero, set_cons_succ])
        refine tk 11 ?_ rfl (by kernel_rfl) (by kernel_rfl) (by kernel_rfl) (fun _ _ _ h => h) (by rfl) ?_ (by assumption) ?_
        rotate_left
        · (intro w hSw; (try dsimp only at hSw); go_simp; (try with_reducible rfl))
        (try simp only [getElem_toArray, getElem_cons_succ, getElem_cons_zero, Act.put, setIfInBounds_toArray, set_cons_zero, set_cons_succ])
        refine tk 12 ?_ rfl (by kernel_rfl) (by kernel_rfl) (by kernel_rfl) (fun _ _ _ h => h) (by rfl) ?_ (by assumption) ?_
        rotate_left
        · (intro w hSw; (try dsimp only at hSw); go_simp; (try with_reducible rfl))
        (try simp only [getElem_toArray, getElem_cons_succ, getElem_cons_zero, Act.put, setIfInBounds_toArray, set_cons_zero, set_cons_succ])
        refine tk 13 ?_ rfl (by kernel_rfl) (by kernel_rfl) (by kernel_rfl) (fun _ _ _ h => h) (by rfl) ?_ (by assumption) ?_
        rotate_left
        · (intro w hSw; (try dsimp only at hSw); go_simp; (try with_reducible rfl))
        (try simp only [getElem_toArray, getElem_cons_succ, getElem_cons_zero, Act.put, setIfInBounds_toArray, set_cons_zero, set_cons_succ])
        refine tk 15 ?_ rfl (by kernel_rfl) (by kernel_rfl) (by kernel_rfl) (fun _ _ _ h => h) (by rfl) ?_ (by assumption) ?_
        rotate_left
        · (intro w hSw; (try dsimp only at hSw); go_simp; (try with_reducible rfl))
        (try simp only [getElem_toArray, getElem_cons_succ, getElem_cons_zero, Act.put, setIfInBounds_toArray, set_cons_zero, set_cons_succ])
        refine tk 16 ?_ rfl (by kernel_rfl) (by kernel_rfl) (by kernel_rfl) (fun _ _ _ h => h) (by rfl) ?_ (by assumption) ?_
        rotate_left
        · (intro w hSw; (try dsimp only at hSw); go_simp; (try with_reducible rfl))
        (try simp only [getElem_toArray, getElem_cons_succ, getElem_cons_zero, Act.put, setIfInBounds_toArray, set_cons_zero, set_cons_succ])
        refine rd1 14 (by kernel_rfl) rfl (fun K hK => ?_)
        go_simp
        go_at_call 46
        refine (lopp_v g18 g19 g20 V0.out g12 g13 g14 V1.out HKO.out (by decide)).mono ?_
        rintro e w515 ⟨rfl, hb⟩
        replace g15 := g15.below hb
        replace g16 := g16.below hb
        replace g17 := g17.below hb
        replace g21 := g21.below hb
        replace g22 := g22.below hb
        replace g23 := g23.below hb
        replace g18 := g18.below hb
        replace g19 := g19.below hb
        replace g20 := g20.below hb
        replace g12 := g12.below hb
        replace g13 := g13.below hb
        replace g14 := g14.below hb
        replace b4 := b4.below hb
        replace b5 := b5.below hb
        replace b6 := b6.below hb
        replace b7 := b7.below hb
        replace H0 := H0.trans (hb.mono H0.size)
        clear hb
        go_wp2_with fail
        refine hK.out _ _ (b4.and6 (b5.and6 (b6.and6 (b7.all6)))) (fun hHeld => ?_)
        clear hK K
        (try simp only [getElem_toArray, getElem_cons_succ, getElem_cons_zero, Act.put, setIfInBounds_toArray, set_cons_zero, set_cons_succ])
        refine rd1 17 (by kernel_rfl) rfl (fun K hK => ?_)
        go_simp
        go_at_call 40
        refine (grev_v g15 g16 g17).mono ?_
        rintro e w516 ⟨s0, A0, n0, c0, s1, A1, n1, c1, s2, A2, n2, c2, rfl, g0, g1, g2, hb⟩
        replace g15 := g15.below hb
        replace g16 := g16.below hb
        replace g17 := g17.below hb
        replace g21 := g21.below hb
        replace g22 := g22.below hb
        replace g23 := g23.below hb
        replace g18 := g18.below hb
        replace g19 := g19.below hb
        replace g20 := g20.below hb
        replace g12 := g12.below hb
        replace g13 := g13.below hb
        replace g14 := g14.below hb
        replace b4 := b4.below hb
        replace b5 := b5.below hb
        replace b6 := b6.below hb
        replace b7 := b7.below hb
        replace H0 := H0.trans (hb.mono H0.size)
        clear hb
        go_wp2_with fail
        refine hK.out _ _ (b4.and6 (b5.and6 (b6.and6 (b7.all6)))) (fun hHeld => ?_)
        clear hK K
        (try simp only [getElem_toArray, getElem_cons_succ, getElem_cons_zero, Act.put, setIfInBounds_toArray, set_cons_zero, set_cons_succ])
        refine rd1 18 (by kernel_rfl) rfl (fun K hK => ?_)
        go_simp
        go_at_call 45
        refine (gcmp_v g21 g22 g23 g0 g1 g2 HKR.out (by decide) (by decide)).mono ?_
        rintro e w517 ⟨rfl, hb⟩
        replace g15 := g15.below hb
        replace g16 := g16.below hb
        replace g17 := g17.below hb
        replace g21 := g21.below hb
        replace g22 := g22.below hb
        replace g23 := g23.below hb
        replace g18 := g18.below hb
        replace g19 := g19.below hb
        replace g20 := g20.below hb
        replace g12 := g12.below hb
        replace g13 := g13.below hb
        replace g14 := g14.below hb
        replace g0 := g0.below hb
        replace g1 := g1.below hb
        replace g2 := g2.below hb
        replace b4 := b4.below hb
        replace b5 := b5.below hb
        replace b6 := b6.below hb
        replace b7 := b7.below hb
        replace H0 := H0.trans (hb.mono H0.size)
        clear hb
        clear g0
        clear g1
        clear g2
        go_wp2_with fail
        refine hK.out _ _ (b4.and6 (b5.and6 (b6.and6 (b7.all6)))) (fun hHeld => ?_)
        clear hK K
        (try simp only [getElem_toArray, getElem_cons_succ, getElem_cons_zero, Act.put, setIfInBounds_toArray, set_cons_zero, set_cons_succ])
        refine tk 19 ?_ rfl (by kernel_rfl) (by kernel_rfl) (by kernel_rfl) (fun _ _ _ h => h) (by rfl) ?_ (by assumption) ?_
        rotate_left
        · (intro w hSw; (try dsimp only at hSw); go_simp; (try with_reducible rfl))
        (try simp only [getElem_toArray, getElem_cons_succ, getElem_cons_zero, Act.put, setIfInBounds_toArray, set_cons_zero, set_cons_succ])
        refine tk 20 ?_ rfl (by kernel_rfl) (by kernel_rfl) (by kernel_rfl) (fun _ _ _ h => h) (by rfl) ?_ (by assumption) ?_
        rotate_left
        · (intro w hSw; (try dsimp only at hSw); go_simp; (try with_reducible rfl))
        (try simp only [getElem_toArray, getElem_cons_succ, getElem_cons_zero, Act.put, setIfInBounds_toArray, set_cons_zero, set_cons_succ])
        refine tk 21 ?_ rfl (by kernel_rfl) (by kernel_rfl) (by kernel_rfl) (fun _ _ _ h => h) (by rfl) ?_ (by assumption) ?_
        rotate_left
        · (intro w hSw; (try dsimp only at hSw); go_simp; (try with_reducible rfl))
        (try simp only [getElem_toArray, getElem_cons_succ, getElem_cons_zero, Act.put, setIfInBounds_toArray, set_cons_zero, set_cons_succ])
        refine tk 22 ?_ rfl (by kernel_rfl) (by kernel_rfl) (by kernel_rfl) (fun _ _ _ h => h) (by rfl) ?_ (by assumption) ?_
        rotate_left
        · (intro w hSw; (try dsimp only at hSw); go_simp; (try with_reducible rfl))
        (try simp only [getElem_toArray, getElem_cons_succ, getElem_cons_zero, Act.put, setIfInBounds_toArray, set_cons_zero, set_cons_succ])
        refine tk 23 ?_ rfl (by kernel_rfl) (by kernel_rfl) (by kernel_rfl) (fun _ _ _ h => h) (by rfl) ?_ (by assumption) ?_
        rotate_left
        · (intro w hSw; (try dsimp only at hSw); go_simp; (try with_reducible rfl))
        (try simp only [getElem_toArray, getElem_cons_succ, getElem_cons_zero, Act.put, setIfInBounds_toArray, set_cons_zero, set_cons_succ])
        refine tk 24 ?_ rfl (by kernel_rfl) (by kernel_rfl) (by kernel_rfl) (fun _ _ _ h => h) (by rfl) ?_ (by assumption) ?_
        rotate_left
        · (intro w hSw; (try dsimp only at hSw); go_simp; (try with_reducible rfl))
        (try simp only [getElem_toArray, getElem_cons_succ, getElem_cons_zero, Act.put, setIfInBounds_toArray, set_cons_zero, set_cons_succ])
        refine tk 26 ?_ rfl (by kernel_rfl) (by kernel_rfl) (by kernel_rfl) (fun _ _ _ h => h) (by rfl) ?_ (by assumption) ?_
        rotate_left
        · (intro w hSw; (try dsimp only at hSw); go_simp; (try with_reducible rfl))
        (try simp only [getElem_toArray, getElem_cons_succ, getElem_cons_zero, Act.put, setIfInBounds_toArray, set_cons_zero, set_cons_succ])
        refine tk 27 ?_ rfl (by kernel_rfl) (by kernel_rfl) (by kernel_rfl) (fun _ _ _ h => h) (by rfl) ?_ (by assumption) ?_
        rotate_left
        · (intro w hSw; (try dsimp only at hSw); go_simp; (try with_reducible rfl))
        (try simp only [getElem_toArray, getElem_cons_succ, getElem_cons_zero, Act.put, setIfInBounds_toArray, set_cons_zero, set_cons_succ])
        refine rd1 25 (by kernel_rfl) rfl (fun K hK => ?_)
        go_simp
        go_at_call 47
        refine (lparallel_v g18 g19 g20 V0.out g12 g13 g14 V1.out HPB.out (by decide)).mono ?_
        rintro e w518 ⟨rfl, hb⟩
        replace g15 := g15.below hb
        replace g16 := g16.below hb
        replace g17 := g17.below hb
        replace g21 := g21.below hb
        replace g22 := g22.below hb
        replace g23 := g23.below hb
        replace g18 := g18.below hb
        replace g19 := g19.below hb
        replace g20 := g20.below hb
        replace g12 := g12.below hb
        replace g13 := g13.below hb
        replace g14 := g14.below hb
        replace b4 := b4.below hb
        replace b5 := b5.below hb
        replace b6 := b6.below hb
        replace b7 := b7.below hb
        replace H0 := H0.trans (hb.mono H0.size)
        clear hb
        go_wp2_with fail
        refine hK.out _ _ (b4.and6 (b5.and6 (b6.and6 (b7.all6)))) (fun hHeld => ?_)
        clear hK K
        (try simp only [getElem_toArray, getElem_cons_succ, getElem_cons_zero, Act.put, setIfInBounds_toArray, set_cons_zero, set_cons_succ])
        refine rd1 28 (by kernel_rfl) rfl (fun K hK => ?_)
        go_simp
        go_at_call 48
        refine (gparallel_v (g21.more (by decide)) (g22.more (by decide)) (g15.more (by decide)) (g16.more (by decide)) HKP.out).mono ?_
        rintro e w519 ⟨rfl, hb⟩
        replace g15 := g15.below hb
        replace g16 := g16.below hb
        replace g17 := g17.below hb
        replace g21 := g21.below hb
        replace g22 := g22.below hb
        replace g23 := g23.below hb
        replace g18 := g18.below hb
        replace g19 := g19.below hb
        replace g20 := g20.below hb
        replace g12 := g12.below hb
        replace g13 := g13.below hb
        replace g14 := g14.below hb
        replace b4 := b4.below hb
        replace b5 := b5.below hb
        replace b6 := b6.below hb
        replace b7 := b7.below hb
        replace H0 := H0.trans (hb.mono H0.size)
        clear hb
        go_wp2_with fail
        refine hK.out _ _ (b4.and6 (b5.and6 (b6.and6 (b7.all6)))) (fun hHeld => ?_)
        clear hK K
        (try simp only [getElem_toArray, getElem_cons_succ, getElem_cons_zero, Act.put, setIfInBounds_toArray, set_cons_zero, set_cons_succ])
        refine tk 29 ?_ rfl (by kernel_rfl) (by kernel_rfl) (by kernel_rfl) (fun _ _ _ h => h) (by rfl) ?_ (by assumption) ?_
        rotate_left
        · (intro w hSw; (try dsimp only at hSw); go_simp; (try with_reducible rfl))
        (try simp only [getElem_toArray, getElem_cons_succ, getElem_cons_zero, Act.put, setIfInBounds_toArray, set_cons_zero, set_cons_succ])
        refine tk 30 ?_ rfl (by kernel_rfl) (by kernel_rfl) (by kernel_rfl) (fun _ _ _ h => h) (by rfl) ?_ (by assumption) ?_
        rotate_left
        · (intro w hSw; (try dsimp only at hSw); go_simp; (try with_reducible rfl))
        (try simp only [getElem_toArray, getElem_cons_succ, getElem_cons_zero, Act.put, setIfInBounds_toArray, set_cons_zero, set_cons_succ])
        refine tk 31 ?_ rfl (by kernel_rfl) (by kernel_rfl) (by kernel_rfl) (fun _ _ _ h => h) (by rfl) ?_ (by assumption) ?_
        rotate_left
        · (intro w hSw; (try dsimp only at hSw); go_simp; (try with_reducible rfl))
        (try simp only [getElem_toArray, getElem_cons_succ, getElem_cons_zero, Act.put, setIfInBounds_toArray, set_cons_zero, set_cons_succ])
        refine tk 32 ?_ rfl (by kernel_rfl) (by kernel_rfl) (by kernel_rfl) (fun _ _ _ h => h) (by rfl) ?_ (by assumption) ?_
        rotate_left
        · (intro w hSw; (try dsimp only at hSw); go_simp; (try with_reducible rfl))
        (try simp only [getElem_toArray, getElem_cons_succ, getElem_cons_zero, Act.put, setIfInBounds_toArray, set_cons_zero, set_cons_succ])
        refine tk 33 ?_ rfl (by kernel_rfl) (by kernel_rfl) (by kernel_rfl) (fun _ _ _ h => h) (by rfl) ?_ (by assumption) ?_
        rotate_left
        · (intro w hSw; (try dsimp only at hSw); go_simp; (try with_reducible rfl))
        (try simp only [getElem_toArray, getElem_cons_succ, getElem_cons_zero, Act.put, setIfInBounds_toArray, set_cons_zero, set_cons_succ])
        refine tk 35 ?_ rfl (by kernel_rfl) (by kernel_rfl) (by kernel_rfl) (fun _ _ _ h => h) (by rfl) ?_ (by assumption) ?_
        rotate_left
        · (intro w hSw; (try dsimp only at hSw); go_simp; (try with_reducible rfl))
        (try simp only [getElem_toArray, getElem_cons_succ, getElem_cons_zero, Act.put, setIfInBounds_toArray, set_cons_zero, set_cons_succ])
        refine tk 36 ?_ rfl (by kernel_rfl) (by kernel_rfl) (by kernel_rfl) (fun _ _ _ h => h) (by rfl) ?_ (by assumption) ?_
        rotate_left
        · (intro w hSw; (try dsimp only at hSw); go_simp; (try with_reducible rfl))
        (try simp only [getElem_toArray, getElem_cons_succ, getElem_cons_zero, Act.put, setIfInBounds_toArray, set_cons_zero, set_cons_succ])
        refine rd1 34 (by kernel_rfl) rfl (fun K hK => ?_)
        go_simp
        go_at_call 49
        refine (lcompare_v g18 g19 g20 V0.out g12 g13 g14 V1.out HKC.out (by decide)).mono ?_
        rintro e w520 ⟨rfl, hb⟩
        replace g15 := g15.below hb
        replace g16 := g16.below hb
        replace g17 := g17.below hb
        replace g21 := g21.below hb
        replace g22 := g22.below hb
        replace g23 := g23.below hb
        replace g18 := g18.below hb
        replace g19 := g19.below hb
        replace g20 := g20.below hb
        replace g12 := g12.below hb
        replace g13 := g13.below hb
        replace g14 := g14.below hb
        replace b4 := b4.below hb
        replace b5 := b5.below hb
        replace b6 := b6.below hb
        replace b7 := b7.below hb
        replace H0 := H0.trans (hb.mono H0.size)
        clear hb
        go_wp2_with fail
        refine hK.out _ _ (b4.and6 (b5.and6 (b6.and6 (b7.all6)))) (fun hHeld => ?_)
        clear hK K
        (try simp only [getElem_toArray, getElem_cons_succ, getElem_cons_zero, Act.put, setIfInBounds_toArray, set_cons_zero, set_cons_succ])
        refine rd1 37 (by kernel_rfl) rfl (fun K hK => ?_)
        go_simp
        go_at_call 45
        refine (gcmp_v g21 g22 g23 g15 g16 g17 HKC.out (by decide) (by decide)).mono ?_
        rintro e w521 ⟨rfl, hb⟩
        replace g15 := g15.below hb
        replace g16 := g16.below hb
        replace g17 := g17.below hb
        replace g21 := g21.below hb
        replace g22 := g22.below hb
        replace g23 := g23.below hb
        replace g18 := g18.below hb
        replace g19 := g19.below hb
        replace g20 := g20.below hb
        replace g12 := g12.below hb
        replace g13 := g13.below hb
        replace g14 := g14.below hb
        replace b4 := b4.below hb
        replace b5 := b5.below hb
        replace b6 := b6.below hb
        replace b7 := b7.below hb
        replace H0 := H0.trans (hb.mono H0.size)
        clear hb
        go_wp2_with fail
        refine hK.out _ _ (b4.and6 (b5.and6 (b6.and6 (b7.all6)))) (fun hHeld => ?_)
        clear hK K
        (try simp only [getElem_toArray, getElem_cons_succ, getElem_cons_zero, Act.put, setIfInBounds_toArray, set_cons_zero, set_cons_succ])
        refine tk 38 ?_ rfl (by kernel_rfl) (by kernel_rfl) (by kernel_rfl) (fun _ _ _ h => h) (by rfl) ?_ (by assumption) ?_
        rotate_left
        · (intro w hSw; (try dsimp only at hSw); go_simp; (try with_reducible rfl))
        (try simp only [getElem_toArray, getElem_cons_succ, getElem_cons_zero, Act.put, setIfInBounds_toArray, set_cons_zero, set_cons_succ])
        refine tk 39 ?_ rfl (by kernel_rfl) (by kernel_rfl) (by kernel_rfl) (fun _ _ _ h => h) (by rfl) ?_ (by assumption) ?_
        rotate_left
        · (intro w hSw; (try dsimp only at hSw); go_simp; (try with_reducible rfl))
        (try simp only [getElem_toArray, getElem_cons_succ, getElem_cons_zero, Act.put, setIfInBounds_toArray, set_cons_zero, set_cons_succ])
        refine tk 40 ?_ rfl (by kernel_rfl) (by kernel_rfl) (by kernel_rfl) (fun _ _ _ h => h) (by rfl) ?_ (by assumption) ?_
        rotate_left
        · (intro w hSw; (try dsimp only at hSw); go_simp; (try with_reducible rfl))
        (try simp only [getElem_toArray, getElem_cons_succ, getElem_cons_zero, Act.put, setIfInBounds_toArray, set_cons_zero, set_cons_succ])
        refine wpAnyH_done (by kernel_rfl) ?_ _
        refine NoPanic.normal ?_
        go_wp2_with fail
        go_returns
        exact ⟨rfl, H0⟩
    · have HD := Lib.hid hd
      obtain ⟨kp, hkp⟩ : ∃ k, (z0 * z4 - z1 * z3).sign = k := ⟨_, rfl⟩
      have HKP := Lib.hid hkp
      have HPB := Lib.hid (sg_eqb hkp)
      clear hkp hd
      obtain ⟨kc, hkc⟩ : ∃ k, cmp3 z0 z1 z2 z3 z4 z5 = k := ⟨_, rfl⟩
      have HKC := Lib.hid hkc
      clear hkc
      obtain ⟨ko, hko⟩ : ∃ k, cmp3 (-z0) (-z1) (-z2) z3 z4 z5 = k := ⟨_, rfl⟩
      obtain ⟨kr, hkr⟩ : ∃ k, cmp3 z0 z1 z2 (-z3) (-z4) (-z5) = k := ⟨_, rfl⟩
      have eor : ((ko : Int) == 0) = ((kr : Int) == 0) := by rw [← hko, ← hkr]; exact cmp3_rev
      have HKO := Lib.hid hko
      have HKR := Lib.hid hkr
      clear hko hkr
      have ec0 : ((((kc : Int) == 0)) == (((kc : Int) == 0))) = true := by simp
      have ec1 : ((((ko : Int) == 0)) == (((kr : Int) == 0))) = true := by rw [eor]; simp
      have ec2 : ((((kp : Int) == 0)) == (((kp : Int) == 0))) = true := by simp
      have ec3 : ((kc : Int) == kc) = true := by simp
      clear eor
      have lkb4 := b4.lt
      have lkb5 := b5.lt
      go_cut [6, 7] from 8 (fun s_6 s_7 wx => ∃ g70 g71 s18 A18 n18 c18 s19 A19 n19 c19 s20 A20 n20 c20 s12 A12 n12 c12 s13 A13 n13 c13 s14 A14 n14 c14, s_6 = .pointer (some ⟨g70, 0, none⟩) ∧ s_7 = .pointer (some ⟨g71, 0, none⟩) ∧ NI wx s18 (.slice A18 n18 c18) z0 1 ∧ NI wx s19 (.slice A19 n19 c19) z1 1 ∧ NI wx s20 (.slice A20 n20 c20) z2 1 ∧ NI wx s12 (.slice A12 n12 c12) z3 1 ∧ NI wx s13 (.slice A13 n13 c13) z4 1 ∧ NI wx s14 (.slice A14 n14 c14) z5 1 ∧ Box wx g70 #[.bool s18, .slice A18 n18 c18, .bool s19, .slice A19 n19 c19, .bool s20, .slice A20 n20 c20] 30 ∧ Box wx g71 #[.bool s12, .slice A12 n12 c12, .bool s13, .slice A13 n13 c13, .bool s14, .slice A14 n14 c14] 30 ∧ wy.heap.size ≤ g70 ∧ wy.heap.size ≤ g71 ∧ Below wy.heap.size wy wx)
      case first =>
        have lcb4_6 := b4.lt
        have lcb5_6 := b5.lt
        have hG := drawn_below wy
        refine wp_region_noPanic ?_
        refine wp_region_anyd (by kernel_rfl) ?_
        generalize wy.drew = v6 at hG ⊢
        refine wpAny_of_F (S := (fun V => V.cell? ⟨w3.heap.size, 0, none⟩ = some (.bool s21) ∧ V.cell? ⟨w3.heap.size, 1, none⟩ = some (.slice A21 n21 c21) ∧ V.cell? ⟨w3.heap.size, 2, none⟩ = some (.bool s22) ∧ V.cell? ⟨w3.heap.size, 3, none⟩ = some (.slice A22 n22 c22) ∧ V.cell? ⟨w3.heap.size, 4, none⟩ = some (.bool s23) ∧ V.cell? ⟨w3.heap.size, 5, none⟩ = some (.slice A23 n23 c23) ∧ V.cell? ⟨w3.heap.size + 1, 0, none⟩ = some (.bool s15) ∧ V.cell? ⟨w3.heap.size + 1, 1, none⟩ = some (.slice A15 n15 c15) ∧ V.cell? ⟨w3.heap.size + 1, 2, none⟩ = some (.bool s16) ∧ V.cell? ⟨w3.heap.size + 1, 3, none⟩ = some (.slice A16 n16 c16) ∧ V.cell? ⟨w3.heap.size + 1, 4, none⟩ = some (.bool s17) ∧ V.cell? ⟨w3.heap.size + 1, 5, none⟩ = some (.slice A17 n17 c17))) (F := (fun j => j == 6 || j == 7)) _ _ _ _ ?_
        refine wpAnyF_take (i := 0) (v := ?_) (fun j => j == 1 || j == 3 || j == 6 || j == 7) rfl (by kernel_rfl) (by kernel_rfl) (by kernel_rfl) (by kernel_rfl) (fun j hj => by have h6 : 8 ≤ j := hj; simp; omega) (fun _ _ _ h => h) (Or.inl ⟨by rfl, ?_⟩) ((b4.below hG).and6 ((b5.below hG).all6)) ?_
        rotate_left
        · (intro w hSw; (try dsimp only at hSw); go_simp; (try with_reducible rfl))
        (try simp only [getElem_toArray, getElem_cons_zero, Act.put, setIfInBounds_toArray, set_cons_zero, set_cons_succ])
        refine wpAnyF_take (i := 2) (v := ?_) (fun j => j == 3 || j == 6 || j == 7) rfl (by kernel_rfl) (by kernel_rfl) (by kernel_rfl) (by kernel_rfl) (fun j hj => by have h6 : 8 ≤ j := hj; simp; omega) (fun _ _ _ h => h) (Or.inl ⟨by rfl, ?_⟩) ((b4.below hG).and6 ((b5.below hG).all6)) ?_
        rotate_left
        · (intro w hSw; (try dsimp only at hSw); go_simp; (try with_reducible rfl))
        (try simp only [getElem_toArray, getElem_cons_succ, getElem_cons_zero, Act.put, setIfInBounds_toArray, set_cons_zero, set_cons_succ])
        refine wpAnyF_name (n' := 6) (l' := #[true, false, true, false, false, false, false, false]) (by kernel_rfl) (by kernel_rfl) (fun Ac_ hA => ?_)
        refine wpAnyF_phase (rs := [1, 3, 4, 5]) (full := #[true, true, true, true, true, true, false, false]) (states := [#[true, false, true, false, false, false, false, false], #[true, true, true, false, false, false, false, false], #[true, false, true, false, true, false, false, false], #[true, false, true, false, false, true, false, false], #[true, true, true, false, false, true, false, false], #[true, false, true, false, true, true, false, false], #[true, true, true, false, true, true, false, false], #[true, true, true, true, true, true, false, false], #[true, true, true, true, false, true, false, false], #[true, true, true, false, true, false, false, false], #[true, true, true, true, true, false, false, false], #[true, true, true, true, false, false, false, false]]) (k := 2) (I := fun listed a w => ∃ (y1_ y3_ y4_ y5_ : Value), a = ((((Ac_.put (some 28) y1_).put (some 30) y3_).put (some 6) y4_).put (some 7) y5_) ∧ Below wy.heap.size wy w ∧ (listed.getD 1 false = true → ∃ s18 A18 n18 c18 s19 A19 n19 c19 s20 A20 n20 c20, y1_ = .agg #[.bool s18, .slice A18 n18 c18, .bool s19, .slice A19 n19 c19, .bool s20, .slice A20 n20 c20] ∧ NI w s18 (.slice A18 n18 c18) z0 1 ∧ NI w s19 (.slice A19 n19 c19) z1 1 ∧ NI w s20 (.slice A20 n20 c20) z2 1) ∧ (listed.getD 3 false = true → ∃ s12 A12 n12 c12 s13 A13 n13 c13 s14 A14 n14 c14, y3_ = .agg #[.bool s12, .slice A12 n12 c12, .bool s13, .slice A13 n13 c13, .bool s14, .slice A14 n14 c14] ∧ NI w s12 (.slice A12 n12 c12) z3 1 ∧ NI w s13 (.slice A13 n13 c13) z4 1 ∧ NI w s14 (.slice A14 n14 c14) z5 1) ∧ (listed.getD 4 false = true → ∃ g0_, y4_ = .pointer (some ⟨g0_, 0, none⟩) ∧ Box w g0_ #[.bool false, .slice none 0 0, .bool false, .slice none 0 0, .bool false, .slice none 0 0] 30 ∧ wy.heap.size ≤ g0_) ∧ (listed.getD 5 false = true → ∃ g1_, y5_ = .pointer (some ⟨g1_, 0, none⟩) ∧ Box w g1_ #[.bool false, .slice none 0 0, .bool false, .slice none 0 0, .bool false, .slice none 0 0] 30 ∧ wy.heap.size ≤ g1_) ∧ (listed.getD 4 false = true → listed.getD 5 false = true → y4_ ≠ y5_)) (by kernel_rfl) (by kernel_rfl) ?_ ?_ _ _ _ _ (by kernel_rfl) (by kernel_rfl) ⟨Ac_.tmps.getD 28 undef, Ac_.tmps.getD 30 undef, Ac_.tmps.getD 6 undef, Ac_.tmps.getD 7 undef, by subst hA; kernel_rfl, hG, fun h => (by cases h), fun h => (by cases h), fun h => (by cases h), fun h => (by cases h), fun h => (by cases h)⟩
        · refine (AllStepsF.cons (i := 1) (o := _) rfl rfl ?_ (AllStepsF.cons (i := 3) (o := _) rfl rfl ?_ (AllStepsF.cons (i := 4) (o := _) rfl rfl ?_ (AllStepsF.cons (i := 5) (o := _) rfl rfl ?_ AllStepsF.nil))))
          · rintro listed a wx ⟨y1_, y3_, y4_, y5_, rfl, hG, H1_, H3_, H4_, H5_, D4_5⟩ hi K hK
            subst hA
            (try simp only [Act.put, List.setIfInBounds_toArray, List.set_cons_zero, List.set_cons_succ])
            go_simp
            go_at_call 23
            refine (gtol_v (g21.below hG) (g22.below hG) (g23.below hG) (by decide)).mono ?_
            rintro e X ⟨s18, A18, n18, c18, s19, A19, n19, c19, s20, A20, n20, c20, rfl, g18, g19, g20, hb9⟩
            go_wp2_with fail
            have hG9 := hG.trans (hb9.mono hG.size)
            refine hK.out _ _ ((b4.below hG9).and6 ((b5.below hG9).all6)) ?_
            clear hK K
            exact ⟨_, y3_, y4_, y5_, by kernel_rfl, hG9, fun _ => ⟨s18, A18, n18, c18, s19, A19, n19, c19, s20, A20, n20, c20, rfl, g18, g19, g20⟩, fun h => by obtain ⟨s12, A12, n12, c12, s13, A13, n13, c13, s14, A14, n14, c14, e_, g12', g13', g14'⟩ := H3_ (set_dep (by decide) h); exact ⟨s12, A12, n12, c12, s13, A13, n13, c13, s14, A14, n14, c14, e_, g12'.below hb9, g13'.below hb9, g14'.below hb9⟩, fun h => by obtain ⟨g0_, e_, bx0', hl0'⟩ := H4_ (set_dep (by decide) h); exact ⟨g0_, e_, bx0'.below hb9, hl0'⟩, fun h => by obtain ⟨g1_, e_, bx1', hl1'⟩ := H5_ (set_dep (by decide) h); exact ⟨g1_, e_, bx1'.below hb9, hl1'⟩, fun h h9 => D4_5 (set_dep (by decide) h) (set_dep (by decide) h9)⟩
          · rintro listed a wx ⟨y1_, y3_, y4_, y5_, rfl, hG, H1_, H3_, H4_, H5_, D4_5⟩ hi K hK
            subst hA
            (try simp only [Act.put, List.setIfInBounds_toArray, List.set_cons_zero, List.set_cons_succ])
            go_simp
            go_at_call 23
            refine (gtol_v (g15.below hG) (g16.below hG) (g17.below hG) (by decide)).mono ?_
            rintro e X ⟨s12, A12, n12, c12, s13, A13, n13, c13, s14, A14, n14, c14, rfl, g12, g13, g14, hb9⟩
            go_wp2_with fail
            have hG9 := hG.trans (hb9.mono hG.size)
            refine hK.out _ _ ((b4.below hG9).and6 ((b5.below hG9).all6)) ?_
            clear hK K
            exact ⟨y1_, _, y4_, y5_, by kernel_rfl, hG9, fun h => by obtain ⟨s18, A18, n18, c18, s19, A19, n19, c19, s20, A20, n20, c20, e_, g18', g19', g20'⟩ := H1_ (set_dep (by decide) h); exact ⟨s18, A18, n18, c18, s19, A19, n19, c19, s20, A20, n20, c20, e_, g18'.below hb9, g19'.below hb9, g20'.below hb9⟩, fun _ => ⟨s12, A12, n12, c12, s13, A13, n13, c13, s14, A14, n14, c14, rfl, g12, g13, g14⟩, fun h => by obtain ⟨g0_, e_, bx0', hl0'⟩ := H4_ (set_dep (by decide) h); exact ⟨g0_, e_, bx0'.below hb9, hl0'⟩, fun h => by obtain ⟨g1_, e_, bx1', hl1'⟩ := H5_ (set_dep (by decide) h); exact ⟨g1_, e_, bx1'.below hb9, hl1'⟩, fun h h9 => D4_5 (set_dep (by decide) h) (set_dep (by decide) h9)⟩
          · rintro listed a wx ⟨y1_, y3_, y4_, y5_, rfl, hG, H1_, H3_, H4_, H5_, D4_5⟩ hi K hK
            subst hA
            (try simp only [Act.put, List.setIfInBounds_toArray, List.set_cons_zero, List.set_cons_succ])
            go_simp
            obtain ⟨X, hV, bx0, hb9, sz9⟩ := boxes1 wx #[.bool false, .slice none 0 0, .bool false, .slice none 0 0, .bool false, .slice none 0 0] 30
            rw [hV]
            clear hV
            have hl0 : wy.heap.size ≤ wx.heap.size := hG.size
            have hG9 := hG.trans (hb9.mono hG.size)
            refine hK.out _ _ ((b4.below hG9).and6 ((b5.below hG9).all6)) ?_
            clear hK K
            exact ⟨y1_, y3_, _, y5_, by kernel_rfl, hG9, fun h => by obtain ⟨s18, A18, n18, c18, s19, A19, n19, c19, s20, A20, n20, c20, e_, g18', g19', g20'⟩ := H1_ (set_dep (by decide) h); exact ⟨s18, A18, n18, c18, s19, A19, n19, c19, s20, A20, n20, c20, e_, g18'.below hb9, g19'.below hb9, g20'.below hb9⟩, fun h => by obtain ⟨s12, A12, n12, c12, s13, A13, n13, c13, s14, A14, n14, c14, e_, g12', g13', g14'⟩ := H3_ (set_dep (by decide) h); exact ⟨s12, A12, n12, c12, s13, A13, n13, c13, s14, A14, n14, c14, e_, g12'.below hb9, g13'.below hb9, g14'.below hb9⟩, fun _ => ⟨_, rfl, bx0, hl0⟩, fun h => by obtain ⟨g1_, e_, bx1', hl1'⟩ := H5_ (set_dep (by decide) h); exact ⟨g1_, e_, bx1'.below hb9, hl1'⟩, fun _ h => by obtain ⟨g1_, e_, bx_, _⟩ := H5_ (set_dep (by decide) h); rw [e_]; have lx_ := bx_.lt; intro heq; injection heq with heq; injection heq with heq; injection heq with heq; omega⟩
          · rintro listed a wx ⟨y1_, y3_, y4_, y5_, rfl, hG, H1_, H3_, H4_, H5_, D4_5⟩ hi K hK
            subst hA
            (try simp only [Act.put, List.setIfInBounds_toArray, List.set_cons_zero, List.set_cons_succ])
            go_simp
            obtain ⟨X, hV, bx1, hb9, sz9⟩ := boxes1 wx #[.bool false, .slice none 0 0, .bool false, .slice none 0 0, .bool false, .slice none 0 0] 30
            rw [hV]
            clear hV
            have hl1 : wy.heap.size ≤ wx.heap.size := hG.size
            have hG9 := hG.trans (hb9.mono hG.size)
            refine hK.out _ _ ((b4.below hG9).and6 ((b5.below hG9).all6)) ?_
            clear hK K
            exact ⟨y1_, y3_, y4_, _, by kernel_rfl, hG9, fun h => by obtain ⟨s18, A18, n18, c18, s19, A19, n19, c19, s20, A20, n20, c20, e_, g18', g19', g20'⟩ := H1_ (set_dep (by decide) h); exact ⟨s18, A18, n18, c18, s19, A19, n19, c19, s20, A20, n20, c20, e_, g18'.below hb9, g19'.below hb9, g20'.below hb9⟩, fun h => by obtain ⟨s12, A12, n12, c12, s13, A13, n13, c13, s14, A14, n14, c14, e_, g12', g13', g14'⟩ := H3_ (set_dep (by decide) h); exact ⟨s12, A12, n12, c12, s13, A13, n13, c13, s14, A14, n14, c14, e_, g12'.below hb9, g13'.below hb9, g14'.below hb9⟩, fun h => by obtain ⟨g0_, e_, bx0', hl0'⟩ := H4_ (set_dep (by decide) h); exact ⟨g0_, e_, bx0'.below hb9, hl0'⟩, fun _ => ⟨_, rfl, bx1, hl1⟩, fun h _ => by obtain ⟨g0_, e_, bx_, _⟩ := H4_ (set_dep (by decide) h); rw [e_]; have lx_ := bx_.lt; intro heq; injection heq with heq; injection heq with heq; injection heq with heq; omega⟩
        · rintro a wf ⟨y1_, y3_, y4_, y5_, rfl, hG, H1_, H3_, H4_, H5_, D4_5⟩
          have d4_5 := D4_5 rfl rfl
          obtain ⟨s18, A18, n18, c18, s19, A19, n19, c19, s20, A20, n20, c20, rfl, g18, g19, g20⟩ := H1_ rfl
          obtain ⟨s12, A12, n12, c12, s13, A13, n13, c13, s14, A14, n14, c14, rfl, g12, g13, g14⟩ := H3_ rfl
          obtain ⟨g0_, rfl, bx0, hl0⟩ := H4_ rfl
          obtain ⟨g1_, rfl, bx1, hl1⟩ := H5_ rfl
          clear D4_5
          subst hA
          (try simp only [Act.put, List.setIfInBounds_toArray, List.set_cons_zero, List.set_cons_succ])
          have hne01 : g0_ ≠ g1_ := fun h => d4_5 (by rw [h])
          clear d4_5
          have H0 := hG
          obtain ⟨cbx00, ybx00, cbx01, ybx01, cbx02, ybx02, cbx03, ybx03, cbx04, ybx04, cbx05, ybx05⟩ := bx0.cf6
          refine wpAnyF_last (i := 6) (by kernel_rfl) rfl rfl (fun K hK => ?_)
          go_simp
          refine hK.out _ _ ?_
          clear hK K
          (try simp only [List.setIfInBounds_toArray, List.set_cons_zero, List.set_cons_succ])
          clear cbx00 ybx00 cbx01 ybx01 cbx02 ybx02 cbx03 ybx03 cbx04 ybx04 cbx05 ybx05
          have hg := only_store6 wf (g0_) (.bool s18) (.slice A18 n18 c18) (.bool s19) (.slice A19 n19 c19) (.bool s20) (.slice A20 n20 c20)
          have hB := bx0.stored6 (.bool s18) (.slice A18 n18 c18) (.bool s19) (.slice A19 n19 c19) (.bool s20) (.slice A20 n20 c20)
          generalize hX : ((((((wf.setCell ⟨g0_, 0, none⟩ (.bool s18)).setCell ⟨g0_, 1, none⟩ (.slice A18 n18 c18)).setCell ⟨g0_, 2, none⟩ (.bool s19)).setCell ⟨g0_, 3, none⟩ (.slice A19 n19 c19)).setCell ⟨g0_, 4, none⟩ (.bool s20)).setCell ⟨g0_, 5, none⟩ (.slice A20 n20 c20)) = X57 at hg hB ⊢
          clear hX
          replace g18 := g18.kept bx0 (by simp [notInt]) hg
          replace g19 := g19.kept bx0 (by simp [notInt]) hg
          replace g20 := g20.kept bx0 (by simp [notInt]) hg
          replace g12 := g12.kept bx0 (by simp [notInt]) hg
          replace g13 := g13.kept bx0 (by simp [notInt]) hg
          replace g14 := g14.kept bx0 (by simp [notInt]) hg
          replace bx1 := bx1.other hg (by omega)
          replace bx0 := hB
          replace H0 := below_only H0 hg (by omega) H0.size
          clear hg hB
          obtain ⟨cbx10, ybx10, cbx11, ybx11, cbx12, ybx12, cbx13, ybx13, cbx14, ybx14, cbx15, ybx15⟩ := bx1.cf6
          refine wpAny_one (i := 7) (by kernel_rfl) rfl (fun K hK => ?_)
          go_simp
          refine hK.out _ _ ?_
          clear hK K
          (try simp only [List.setIfInBounds_toArray, List.set_cons_zero, List.set_cons_succ])
          clear cbx10 ybx10 cbx11 ybx11 cbx12 ybx12 cbx13 ybx13 cbx14 ybx14 cbx15 ybx15
          have hg := only_store6 X57 (g1_) (.bool s12) (.slice A12 n12 c12) (.bool s13) (.slice A13 n13 c13) (.bool s14) (.slice A14 n14 c14)
          have hB := bx1.stored6 (.bool s12) (.slice A12 n12 c12) (.bool s13) (.slice A13 n13 c13) (.bool s14) (.slice A14 n14 c14)
          generalize hX : ((((((X57.setCell ⟨g1_, 0, none⟩ (.bool s12)).setCell ⟨g1_, 1, none⟩ (.slice A12 n12 c12)).setCell ⟨g1_, 2, none⟩ (.bool s13)).setCell ⟨g1_, 3, none⟩ (.slice A13 n13 c13)).setCell ⟨g1_, 4, none⟩ (.bool s14)).setCell ⟨g1_, 5, none⟩ (.slice A14 n14 c14)) = X58 at hg hB ⊢
          clear hX
          replace g18 := g18.kept bx1 (by simp [notInt]) hg
          replace g19 := g19.kept bx1 (by simp [notInt]) hg
          replace g20 := g20.kept bx1 (by simp [notInt]) hg
          replace g12 := g12.kept bx1 (by simp [notInt]) hg
          replace g13 := g13.kept bx1 (by simp [notInt]) hg
          replace g14 := g14.kept bx1 (by simp [notInt]) hg
          replace bx0 := bx0.other hg (by omega)
          replace bx1 := hB
          replace H0 := below_only H0 hg (by omega) H0.size
          clear hg hB
          refine wpAny_done (by kernel_rfl) ?_ _
          refine NoPanic.normal ?_
          go_wp2_with fail
          go_meet
          exact ⟨g0_, g1_, s18, A18, n18, c18, s19, A19, n19, c19, s20, A20, n20, c20, s12, A12, n12, c12, s13, A13, n13, c13, s14, A14, n14, c14, rfl, rfl, g18, g19, g20, g12, g13, g14, bx0, bx1, hl0, hl1, H0⟩
      case rest =>
        obtain ⟨g70, g71, s18, A18, n18, c18, s19, A19, n19, c19, s20, A20, n20, c20, s12, A12, n12, c12, s13, A13, n13, c13, s14, A14, n14, c14, rfl, rfl, g18, g19, g20, g12, g13, g14, b6, b7, ml0, ml1, hG⟩ := hcut
        replace g15 := g15.below hG
        replace g16 := g16.below hG
        replace g17 := g17.below hG
        replace g21 := g21.below hG
        replace g22 := g22.below hG
        replace g23 := g23.below hG
        replace b4 := b4.below hG
        replace b5 := b5.below hG
        replace H0 := H0.trans (hG.mono H0.size)
        clear hG
        obtain ⟨cb60, cb61, cb62, cb63, cb64, cb65⟩ := b6.cells6
        obtain ⟨cb70, cb71, cb72, cb73, cb74, cb75⟩ := b7.cells6
        go_wp2_with fail
        clear cb60 cb61 cb62 cb63 cb64 cb65 cb70 cb71 cb72 cb73 cb74 cb75
        refine (lmeet_v g18 g19 g20 V0.out g12 g13 g14 V1.out HD.out (by decide)).mono ?_
        rintro e w506 ⟨s0, A0, n0, c0, D0, m0, e0, s1, A1, n1, c1, D1, m1, e1, rfl, k0, k1, hb⟩
        replace g15 := g15.below hb
        replace g16 := g16.below hb
        replace g17 := g17.below hb
        replace g21 := g21.below hb
        replace g22 := g22.below hb
        replace g23 := g23.below hb
        replace g18 := g18.below hb
        replace g19 := g19.below hb
        replace g20 := g20.below hb
        replace g12 := g12.below hb
        replace g13 := g13.below hb
        replace g14 := g14.below hb
        replace b4 := b4.below hb
        replace b5 := b5.below hb
        replace b6 := b6.below hb
        replace b7 := b7.below hb
        replace H0 := H0.trans (hb.mono H0.size)
        clear hb
        have lb4_507 := b4.lt
        have lb5_507 := b5.lt
        have lb6_507 := b6.lt
        have lb7_507 := b7.lt
        obtain ⟨W507, hW, b8, hbW, hszW507⟩ := boxes1 w506 #[.bool s0, .slice A0 n0 c0, .slice D0 m0 e0, .bool s1, .slice A1 n1 c1, .slice D1 m1 e1] 54
        skip
        skip
        replace g15 := g15.below hbW
        replace g16 := g16.below hbW
        replace g17 := g17.below hbW
        replace g21 := g21.below hbW
        replace g22 := g22.below hbW
        replace g23 := g23.below hbW
        replace g18 := g18.below hbW
        replace g19 := g19.below hbW
        replace g20 := g20.below hbW
        replace g12 := g12.below hbW
        replace g13 := g13.below hbW
        replace g14 := g14.below hbW
        replace k0 := k0.below hbW
        replace k1 := k1.below hbW
        replace b4 := b4.below hbW
        replace b5 := b5.below hbW
        replace b6 := b6.below hbW
        replace b7 := b7.below hbW
        replace H0 := H0.trans (hbW.mono H0.size)
        clear hbW
        obtain ⟨cb40, cb41, cb42, cb43, cb44, cb45⟩ := b4.cells6
        obtain ⟨cb50, cb51, cb52, cb53, cb54, cb55⟩ := b5.cells6
        go_wp2_with fail
        clear hW
        clear hszW507
        clear cb40 cb41 cb42 cb43 cb44 cb45 cb50 cb51 cb52 cb53 cb54 cb55
        refine (gmeet_v (g21.more (by decide)) (g22.more (by decide)) (g23.more (by decide)) (g15.more (by decide)) (g16.more (by decide)) (g17.more (by decide)) HD.out).mono ?_
        rintro e w508 ⟨s2, A2, n2, c2, D2, m2, e2, s3, A3, n3, c3, D3, m3, e3, rfl, k2, k3, hb⟩
        replace g15 := g15.below hb
        replace g16 := g16.below hb
        replace g17 := g17.below hb
        replace g21 := g21.below hb
        replace g22 := g22.below hb
        replace g23 := g23.below hb
        replace g18 := g18.below hb
        replace g19 := g19.below hb
        replace g20 := g20.below hb
        replace g12 := g12.below hb
        replace g13 := g13.below hb
        replace g14 := g14.below hb
        replace k0 := k0.below hb
        replace k1 := k1.below hb
        replace b4 := b4.below hb
        replace b5 := b5.below hb
        replace b6 := b6.below hb
        replace b7 := b7.below hb
        replace b8 := b8.below hb
        replace H0 := H0.trans (hb.mono H0.size)
        clear hb
        have lb4_509 := b4.lt
        have lb5_509 := b5.lt
        have lb6_509 := b6.lt
        have lb7_509 := b7.lt
        have lb8_509 := b8.lt
        obtain ⟨W509, hW, b10, hbW, hszW509⟩ := boxes1 w508 #[.bool s2, .slice A2 n2 c2, .slice D2 m2 e2, .bool s3, .slice A3 n3 c3, .slice D3 m3 e3] 48
        skip
        skip
        replace g15 := g15.below hbW
        replace g16 := g16.below hbW
        replace g17 := g17.below hbW
        replace g21 := g21.below hbW
        replace g22 := g22.below hbW
        replace g23 := g23.below hbW
        replace g18 := g18.below hbW
        replace g19 := g19.below hbW
        replace g20 := g20.below hbW
        replace g12 := g12.below hbW
        replace g13 := g13.below hbW
        replace g14 := g14.below hbW
        replace k0 := k0.below hbW
        replace k1 := k1.below hbW
        replace k2 := k2.below hbW
        replace k3 := k3.below hbW
        replace b4 := b4.below hbW
        replace b5 := b5.below hbW
        replace b6 := b6.below hbW
        replace b7 := b7.below hbW
        replace b8 := b8.below hbW
        replace H0 := H0.trans (hbW.mono H0.size)
        clear hbW
        obtain ⟨cb80, cb81, cb82, cb83, cb84, cb85⟩ := b8.cells6
        obtain ⟨cb100, cb101, cb102, cb103, cb104, cb105⟩ := b10.cells6
        go_wp2_with fail
        clear hW
        clear hszW509
        clear cb80 cb81 cb82 cb83 cb84 cb85 cb100 cb101 cb102 cb103 cb104 cb105
        refine (lsamep_t k0 k1 k2 k3 (by decide) rfl rfl).mono ?_
        rintro e w510 ⟨rfl, hb⟩
        replace g15 := g15.below hb
        replace g16 := g16.below hb
        replace g17 := g17.below hb
        replace g21 := g21.below hb
        replace g22 := g22.below hb
        replace g23 := g23.below hb
        replace g18 := g18.below hb
        replace g19 := g19.below hb
        replace g20 := g20.below hb
        replace g12 := g12.below hb
        replace g13 := g13.below hb
        replace g14 := g14.below hb
        replace k0 := k0.below hb
        replace k1 := k1.below hb
        replace k2 := k2.below hb
        replace k3 := k3.below hb
        replace b4 := b4.below hb
        replace b5 := b5.below hb
        replace b6 := b6.below hb
        replace b7 := b7.below hb
        replace b8 := b8.below hb
        replace b10 := b10.below hb
        replace H0 := H0.trans (hb.mono H0.size)
        clear hb
        clear k0
        clear k1
        clear b8
        clear b10
        clear k2
        clear k3
        go_wp2_with fail
        have hD := drawn_below w510
        replace g15 := g15.below hD
        replace g16 := g16.below hD
        replace g17 := g17.below hD
        replace g21 := g21.below hD
        replace g22 := g22.below hD
        replace g23 := g23.below hD
        replace g18 := g18.below hD
        replace g19 := g19.below hD
        replace g20 := g20.below hD
        replace g12 := g12.below hD
        replace g13 := g13.below hD
        replace g14 := g14.below hD
        replace b4 := b4.below hD
        replace b5 := b5.below hD
        replace b6 := b6.below hD
        replace b7 := b7.below hD
        replace H0 := H0.trans (hD.mono H0.size)
        clear hD
        refine wp_region_noPanic ?_
        refine wp_region_held_drew (S := (fun V => V.cell? ⟨w3.heap.size, 0, none⟩ = some (.bool s21) ∧ V.cell? ⟨w3.heap.size, 1, none⟩ = some (.slice A21 n21 c21) ∧ V.cell? ⟨w3.heap.size, 2, none⟩ = some (.bool s22) ∧ V.cell? ⟨w3.heap.size, 3, none⟩ = some (.slice A22 n22 c22) ∧ V.cell? ⟨w3.heap.size, 4, none⟩ = some (.bool s23) ∧ V.cell? ⟨w3.heap.size, 5, none⟩ = some (.slice A23 n23 c23) ∧ V.cell? ⟨w3.heap.size + 1, 0, none⟩ = some (.bool s15) ∧ V.cell? ⟨w3.heap.size + 1, 1, none⟩ = some (.slice A15 n15 c15) ∧ V.cell? ⟨w3.heap.size + 1, 2, none⟩ = some (.bool s16) ∧ V.cell? ⟨w3.heap.size + 1, 3, none⟩ = some (.slice A16 n16 c16) ∧ V.cell? ⟨w3.heap.size + 1, 4, none⟩ = some (.bool s17) ∧ V.cell? ⟨w3.heap.size + 1, 5, none⟩ = some (.slice A17 n17 c17) ∧ V.cell? ⟨g70, 0, none⟩ = some (.bool s18) ∧ V.cell? ⟨g70, 1, none⟩ = some (.slice A18 n18 c18) ∧ V.cell? ⟨g70, 2, none⟩ = some (.bool s19) ∧ V.cell? ⟨g70, 3, none⟩ = some (.slice A19 n19 c19) ∧ V.cell? ⟨g70, 4, none⟩ = some (.bool s20) ∧ V.cell? ⟨g70, 5, none⟩ = some (.slice A20 n20 c20) ∧ V.cell? ⟨g71, 0, none⟩ = some (.bool s12) ∧ V.cell? ⟨g71, 1, none⟩ = some (.slice A12 n12 c12) ∧ V.cell? ⟨g71, 2, none⟩ = some (.bool s13) ∧ V.cell? ⟨g71, 3, none⟩ = some (.slice A13 n13 c13) ∧ V.cell? ⟨g71, 4, none⟩ = some (.bool s14) ∧ V.cell? ⟨g71, 5, none⟩ = some (.slice A14 n14 c14))) (by kernel_rfl) (b4.and6 (b5.and6 (b6.and6 (b7.all6)))) (fun hHeld => ?_)
        generalize w510.drew = v511 at H0 hHeld g15 g16 g17 g21 g22 g23 g18 g19 g20 g12 g13 g14 b4 b5 b6 b7 ⊢
        refine rd1 0 (by kernel_rfl) rfl (fun K hK => ?_)
        go_simp
        go_at_call 10
        refine (known5_any).mono ?_
        rintro e w512 ⟨rfl, hb⟩
        replace g15 := g15.below hb
        replace g16 := g16.below hb
        replace g17 := g17.below hb
        replace g21 := g21.below hb
        replace g22 := g22.below hb
        replace g23 := g23.below hb
        replace g18 := g18.below hb
        replace g19 := g19.below hb
        replace g20 := g20.below hb
        replace g12 := g12.below hb
        replace g13 := g13.below hb
        replace g14 := g14.below hb
        replace b4 := b4.below hb
        replace b5 := b5.below hb
        replace b6 := b6.below hb
        replace b7 := b7.below hb
        replace H0 := H0.trans (hb.mono H0.size)
        clear hb
        go_wp2_with fail
        refine hK.out _ _ (b4.and6 (b5.and6 (b6.and6 (b7.all6)))) (fun hHeld => ?_)
        clear hK K
        (try simp only [getElem_toArray, getElem_cons_succ, getElem_cons_zero, Act.put, setIfInBounds_toArray, set_cons_zero, set_cons_succ])
        refine tk 1 ?_ rfl (by kernel_rfl) (by kernel_rfl) (by kernel_rfl) (fun _ _ _ h => h) (by rfl) ?_ (by assumption) ?_
        rotate_left
        · (intro w hSw; (try dsimp only at hSw); go_simp; (try with_reducible rfl))
        (try simp only [getElem_toArray, getElem_cons_succ, getElem_cons_zero, Act.put, setIfInBounds_toArray, set_cons_zero, set_cons_succ])
        refine tk 2 ?_ rfl (by kernel_rfl) (by kernel_rfl) (by kernel_rfl) (fun _ _ _ h => h) (by rfl) ?_ (by assumption) ?_
        rotate_left
        · (intro w hSw; (try dsimp only at hSw); go_simp; (try with_reducible rfl))
        (try simp only [getElem_toArray, getElem_cons_succ, getElem_cons_zero, Act.put, setIfInBounds_toArray, set_cons_zero, set_cons_succ])
        refine tk 3 ?_ rfl (by kernel_rfl) (by kernel_rfl) (by kernel_rfl) (fun _ _ _ h => h) (by rfl) ?_ (by assumption) ?_
        rotate_left
        · (intro w hSw; (try dsimp only at hSw); go_simp; (try with_reducible rfl))
        (try simp only [getElem_toArray, getElem_cons_succ, getElem_cons_zero, Act.put, setIfInBounds_toArray, set_cons_zero, set_cons_succ])
        refine tk 5 ?_ rfl (by kernel_rfl) (by kernel_rfl) (by kernel_rfl) (fun _ _ _ h => h) (by rfl) ?_ (by assumption) ?_
        rotate_left
        · (intro w hSw; (try dsimp only at hSw); go_simp; (try with_reducible rfl))
        (try simp only [getElem_toArray, getElem_cons_succ, getElem_cons_zero, Act.put, setIfInBounds_toArray, set_cons_zero, set_cons_succ])
        refine tk 6 ?_ rfl (by kernel_rfl) (by kernel_rfl) (by kernel_rfl) (fun _ _ _ h => h) (by rfl) ?_ (by assumption) ?_
        rotate_left
        · (intro w hSw; (try dsimp only at hSw); go_simp; (try with_reducible rfl))
        (try simp only [getElem_toArray, getElem_cons_succ, getElem_cons_zero, Act.put, setIfInBounds_toArray, set_cons_zero, set_cons_succ])
        refine rd1 4 (by kernel_rfl) rfl (fun K hK => ?_)
        go_simp
        go_at_call 44
        refine (lsame_v g18 g19 g20 V0.out g12 g13 g14 V1.out HKC.out (by decide)).mono ?_
        rintro e w513 ⟨rfl, hb⟩
        replace g15 := g15.below hb
        replace g16 := g16.below hb
        replace g17 := g17.below hb
        replace g21 := g21.below hb
        replace g22 := g22.below hb
        replace g23 := g23.below hb
        replace g18 := g18.below hb
        replace g19 := g19.below hb
        replace g20 := g20.below hb
        replace g12 := g12.below hb
        replace g13 := g13.below hb
        replace g14 := g14.below hb
        replace b4 := b4.below hb
        replace b5 := b5.below hb
        replace b6 := b6.below hb
        replace b7 := b7.below hb
        replace H0 := H0.trans (hb.mono H0.size)
        clear hb
        go_wp2_with fail
        refine hK.out _ _ (b4.and6 (b5.and6 (b6.and6 (b7.all6)))) (fun hHeld => ?_)
        clear hK K
        (try simp only [getElem_toArray, getElem_cons_succ, getElem_cons_zero, Act.put, setIfInBounds_toArray, set_cons_zero, set_cons_succ])
        refine rd1 7 (by kernel_rfl) rfl (fun K hK => ?_)
        go_simp
        go_at_call 45
        refine (gcmp_v g21 g22 g23 g15 g16 g17 HKC.out (by decide) (by decide)).mono ?_
        rintro e w514 ⟨rfl, hb⟩
        replace g15 := g15.below hb
        replace g16 := g16.below hb
        replace g17 := g17.below hb
        replace g21 := g21.below hb
        replace g22 := g22.below hb
        replace g23 := g23.below hb
        replace g18 := g18.below hb
        replace g19 := g19.below hb
        replace g20 := g20.below hb
        replace g12 := g12.below hb
        replace g13 := g13.below hb
        replace g14 := g14.below hb
        replace b4 := b4.below hb
        replace b5 := b5.below hb
        replace b6 := b6.below hb
        replace b7 := b7.below hb
        replace H0 := H0.trans (hb.mono H0.size)
        clear hb
        go_wp2_with fail
        refine hK.out _ _ (b4.and6 (b5.and6 (b6.and6 (b7.all6)))) (fun hHeld => ?_)
        clear hK K
        (try simp only [getElem_toArray, getElem_cons_succ, getElem_cons_zero, Act.put, setIfInBounds_toArray, set_cons_zero, set_cons_succ])
        refine tk 8 ?_ rfl (by kernel_rfl) (by kernel_rfl) (by kernel_rfl) (fun _ _ _ h => h) (by rfl) ?_ (by assumption) ?_
        rotate_left
        · (intro w hSw; (try dsimp only at hSw); go_simp; (try with_reducible rfl))
        (try simp only [getElem_toArray, getElem_cons_succ, getElem_cons_zero, Act.put, setIfInBounds_toArray, set_cons_zero, set_cons_succ])
        refine tk 9 ?_ rfl (by kernel_rfl) (by kernel_rfl) (by kernel_rfl) (fun _ _ _ h => h) (by rfl) ?_ (by assumption) ?_
        rotate_left
        · (intro w hSw; (try dsimp only at hSw); go_simp; (try with_reducible rfl))
        (try simp only [getElem_toArray, getElem_cons_succ, getElem_cons_zero, Act.put, setIfInBounds_toArray, set_cons_zero, set_cons_succ])
        refine tk 10 ?_ rfl (by kernel_rfl) (by kernel_rfl) (by kernel_rfl) (fun _ _ _ h => h) (by rfl) ?_ (by assumption) ?_
        rotate_left
        · (intro w hSw; (try dsimp only at hSw); go_simp; (try with_reducible rfl))
        (try simp only [getElem_toArray, getElem_cons_succ, getElem_cons_zero, Act.put, setIfInBounds_toArray, set_cons_zero, set_cons_succ])
        refine tk 11 ?_ rfl (by kernel_rfl) (by kernel_rfl) (by kernel_rfl) (fun _ _ _ h => h) (by rfl) ?_ (by assumption) ?_
        rotate_left
        · (intro w hSw; (try dsimp only at hSw); go_simp; (try with_reducible rfl))
        (try simp only [getElem_toArray, getElem_cons_succ, getElem_cons_zero, Act.put, setIfInBounds_toArray, set_cons_zero, set_cons_succ])
        refine tk 12 ?_ rfl (by kernel_rfl) (by kernel_rfl) (by kernel_rfl) (fun _ _ _ h => h) (by rfl) ?_ (by assumption) ?_
        rotate_left
        · (intro w hSw; (try dsimp only at hSw); go_simp; (try with_reducible rfl))
        (try simp only [getElem_toArray, getElem_cons_succ, getElem_cons_zero, Act.put, setIfInBounds_toArray, set_cons_zero, set_cons_succ])
        refine tk 13 ?_ rfl (by kernel_rfl) (by kernel_rfl) (by kernel_rfl) (fun _ _ _ h => h) (by rfl) ?_ (by assumption) ?_
        rotate_left
        · (intro w hSw; (try dsimp only at hSw); go_simp; (try with_reducible rfl))
        (try simp only [getElem_toArray, getElem_cons_succ, getElem_cons_zero, Act.put, setIfInBounds_toArray, set_cons_zero, set_cons_succ])
        refine tk 15 ?_ rfl (by kernel_rfl) (by kernel_rfl) (by kernel_rfl) (fun _ _ _ h => h) (by rfl) ?_ (by assumption) ?_
        rotate_left
        · (intro w hSw; (try dsimp only at hSw); go_simp; (try with_reducible rfl))
        (try simp only [getElem_toArray, getElem_cons_succ, getElem_cons_zero, Act.put, setIfInBounds_toArray, set_cons_zero, set_cons_succ])
        refine tk 16 ?_ rfl (by kernel_rfl) (by kernel_rfl) (by kernel_rfl) (fun _ _ _ h => h) (by rfl) ?_ (by assumption) ?_
        rotate_left
        · (intro w hSw; (try dsimp only at hSw); go_simp; (try with_reducible rfl))
        (try simp only [getElem_toArray, getElem_cons_succ, getElem_cons_zero, Act.put, setIfInBounds_toArray, set_cons_zero, set_cons_succ])
        refine rd1 14 (by kernel_rfl) rfl (fun K hK => ?_)
        go_simp
        go_at_call 46
        refine (lopp_v g18 g19 g20 V0.out g12 g13 g14 V1.out HKO.out (by decide)).mono ?_
        rintro e w515 ⟨rfl, hb⟩
        replace g15 := g15.below hb
        replace g16 := g16.below hb
        replace g17 := g17.below hb
        replace g21 := g21.below hb
        replace g22 := g22.below hb
        replace g23 := g23.below hb
        replace g18 := g18.below hb
        replace g19 := g19.below hb
        replace g20 := g20.below hb
        replace g12 := g12.below hb
        replace g13 := g13.below hb
        replace g14 := g14.below hb
        replace b4 := b4.below hb
        replace b5 := b5.below hb
        replace b6 := b6.below hb
        replace b7 := b7.below hb
        replace H0 := H0.trans (hb.mono H0.size)
        clear hb
        go_wp2_with fail
        refine hK.out _ _ (b4.and6 (b5.and6 (b6.and6 (b7.all6)))) (fun hHeld => ?_)
        clear hK K
        (try simp only [getElem_toArray, getElem_cons_succ, getElem_cons_zero, Act.put, setIfInBounds_toArray, set_cons_zero, set_cons_succ])
        refine rd1 17 (by kernel_rfl) rfl (fun K hK => ?_)
        go_simp
        go_at_call 40
        refine (grev_v g15 g16 g17).mono ?_
        rintro e w516 ⟨s0, A0, n0, c0, s1, A1, n1, c1, s2, A2, n2, c2, rfl, g0, g1, g2, hb⟩
        replace g15 := g15.below hb
        replace g16 := g16.below hb
        replace g17 := g17.below hb
        replace g21 := g21.below hb
        replace g22 := g22.below hb
        replace g23 := g23.below hb
        replace g18 := g18.below hb
        replace g19 := g19.below hb
        replace g20 := g20.below hb
        replace g12 := g12.below hb
        replace g13 := g13.below hb
        replace g14 := g14.below hb
        replace b4 := b4.below hb
        replace b5 := b5.below hb
        replace b6 := b6.below hb
        replace b7 := b7.below hb
        replace H0 := H0.trans (hb.mono H0.size)
        clear hb
        go_wp2_with fail
        refine hK.out _ _ (b4.and6 (b5.and6 (b6.and6 (b7.all6)))) (fun hHeld => ?_)
        clear hK K
        (try simp only [getElem_toArray, getElem_cons_succ, getElem_cons_zero, Act.put, setIfInBounds_toArray, set_cons_zero, set_cons_succ])
        refine rd1 18 (by kernel_rfl) rfl (fun K hK => ?_)
        go_simp
        go_at_call 45
        refine (gcmp_v g21 g22 g23 g0 g1 g2 HKR.out (by decide) (by decide)).mono ?_
        rintro e w517 ⟨rfl, hb⟩
        replace g15 := g15.below hb
        replace g16 := g16.below hb
        replace g17 := g17.below hb
        replace g21 := g21.below hb
        replace g22 := g22.below hb
        replace g23 := g23.below hb
        replace g18 := g18.below hb
        replace g19 := g19.below hb
        replace g20 := g20.below hb
        replace g12 := g12.below hb
        replace g13 := g13.below hb
        replace g14 := g14.below hb
        replace g0 := g0.below hb
        replace g1 := g1.below hb
        replace g2 := g2.below hb
        replace b4 := b4.below hb
        replace b5 := b5.below hb
        replace b6 := b6.below hb
        replace b7 := b7.below hb
        replace H0 := H0.trans (hb.mono H0.size)
        clear hb
        clear g0
        clear g1
        clear g2
        go_wp2_with fail
        refine hK.out _ _ (b4.and6 (b5.and6 (b6.and6 (b7.all6)))) (fun hHeld => ?_)
        clear hK K
        (try simp only [getElem_toArray, getElem_cons_succ, getElem_cons_zero, Act.put, setIfInBounds_toArray, set_cons_zero, set_cons_succ])
        refine tk 19 ?_ rfl (by kernel_rfl) (by kernel_rfl) (by kernel_rfl) (fun _ _ _ h => h) (by rfl) ?_ (by assumption) ?_
        rotate_left
        · (intro w hSw; (try dsimp only at hSw); go_simp; (try with_reducible rfl))
        (try simp only [getElem_toArray, getElem_cons_succ, getElem_cons_zero, Act.put, setIfInBounds_toArray, set_cons_zero, set_cons_succ])
        refine tk 20 ?_ rfl (by kernel_rfl) (by kernel_rfl) (by kernel_rfl) (fun _ _ _ h => h) (by rfl) ?_ (by assumption) ?_
        rotate_left
        · (intro w hSw; (try dsimp only at hSw); go_simp; (try with_reducible rfl))
        (try simp only [getElem_toArray, getElem_cons_succ, getElem_cons_zero, Act.put, setIfInBounds_toArray, set_cons_zero, set_cons_succ])
        refine tk 21 ?_ rfl (by kernel_rfl) (by kernel_rfl) (by kernel_rfl) (fun _ _ _ h => h) (by rfl) ?_ (by assumption) ?_
        rotate_left
        · (intro w hSw; (try dsimp only at hSw); go_simp; (try with_reducible rfl))
        (try simp only [getElem_toArray, getElem_cons_succ, getElem_cons_zero, Act.put, setIfInBounds_toArray, set_cons_zero, set_cons_succ])
        refine tk 22 ?_ rfl (by kernel_rfl) (by kernel_rfl) (by kernel_rfl) (fun _ _ _ h => h) (by rfl) ?_ (by assumption) ?_
        rotate_left
        · (intro w hSw; (try dsimp only at hSw); go_simp; (try with_reducible rfl))
        (try simp only [getElem_toArray, getElem_cons_succ, getElem_cons_zero, Act.put, setIfInBounds_toArray, set_cons_zero, set_cons_succ])
        refine tk 23 ?_ rfl (by kernel_rfl) (by kernel_rfl) (by kernel_rfl) (fun _ _ _ h => h) (by rfl) ?_ (by assumption) ?_
        rotate_left
        · (intro w hSw; (try dsimp only at hSw); go_simp; (try with_reducible rfl))
        (try simp only [getElem_toArray, getElem_cons_succ, getElem_cons_zero, Act.put, setIfInBounds_toArray, set_cons_zero, set_cons_succ])
        refine tk 24 ?_ rfl (by kernel_rfl) (by kernel_rfl) (by kernel_rfl) (fun _ _ _ h => h) (by rfl) ?_ (by assumption) ?_
        rotate_left
        · (intro w hSw; (try dsimp only at hSw); go_simp; (try with_reducible rfl))
        (try simp only [getElem_toArray, getElem_cons_succ, getElem_cons_zero, Act.put, setIfInBounds_toArray, set_cons_zero, set_cons_succ])
        refine tk 26 ?_ rfl (by kernel_rfl) (by kernel_rfl) (by kernel_rfl) (fun _ _ _ h => h) (by rfl) ?_ (by assumption) ?_
        rotate_left
        · (intro w hSw; (try dsimp only at hSw); go_simp; (try with_reducible rfl))
        (try simp only [getElem_toArray, getElem_cons_succ, getElem_cons_zero, Act.put, setIfInBounds_toArray, set_cons_zero, set_cons_succ])
        refine tk 27 ?_ rfl (by kernel_rfl) (by kernel_rfl) (by kernel_rfl) (fun _ _ _ h => h) (by rfl) ?_ (by assumption) ?_
        rotate_left
        · (intro w hSw; (try dsimp only at hSw); go_simp; (try with_reducible rfl))
        (try simp only [getElem_toArray, getElem_cons_succ, getElem_cons_zero, Act.put, setIfInBounds_toArray, set_cons_zero, set_cons_succ])
        refine rd1 25 (by kernel_rfl) rfl (fun K hK => ?_)
        go_simp
        go_at_call 47
        refine (lparallel_v g18 g19 g20 V0.out g12 g13 g14 V1.out HPB.out (by decide)).mono ?_
        rintro e w518 ⟨rfl, hb⟩
        replace g15 := g15.below hb
        replace g16 := g16.below hb
        replace g17 := g17.below hb
        replace g21 := g21.below hb
        replace g22 := g22.below hb
        replace g23 := g23.below hb
        replace g18 := g18.below hb
        replace g19 := g19.below hb
        replace g20 := g20.below hb
        replace g12 := g12.below hb
        replace g13 := g13.below hb
        replace g14 := g14.below hb
        replace b4 := b4.below hb
        replace b5 := b5.below hb
        replace b6 := b6.below hb
        replace b7 := b7.below hb
        replace H0 := H0.trans (hb.mono H0.size)
        clear hb
        go_wp2_with fail
        refine hK.out _ _ (b4.and6 (b5.and6 (b6.and6 (b7.all6)))) (fun hHeld => ?_)
        clear hK K
        (try simp only [getElem_toArray, getElem_cons_succ, getElem_cons_zero, Act.put, setIfInBounds_toArray, set_cons_zero, set_cons_succ])
        refine rd1 28 (by kernel_rfl) rfl (fun K hK => ?_)
        go_simp
        go_at_call 48
        refine (gparallel_v (g21.more (by decide)) (g22.more (by decide)) (g15.more (by decide)) (g16.more (by decide)) HKP.out).mono ?_
        rintro e w519 ⟨rfl, hb⟩
        replace g15 := g15.below hb
        replace g16 := g16.below hb
        replace g17 := g17.below hb
        replace g21 := g21.below hb
        replace g22 := g22.below hb
        replace g23 := g23.below hb
        replace g18 := g18.below hb
        replace g19 := g19.below hb
        replace g20 := g20.below hb
        replace g12 := g12.below hb
        replace g13 := g13.below hb
        replace g14 := g14.below hb
        replace b4 := b4.below hb
        replace b5 := b5.below hb
        replace b6 := b6.below hb
        replace b7 := b7.below hb
        replace H0 := H0.trans (hb.mono H0.size)
        clear hb
        go_wp2_with fail
        refine hK.out _ _ (b4.and6 (b5.and6 (b6.and6 (b7.all6)))) (fun hHeld => ?_)
        clear hK K
        (try simp only [getElem_toArray, getElem_cons_succ, getElem_cons_zero, Act.put, setIfInBounds_toArray, set_cons_zero, set_cons_succ])
        refine tk 29 ?_ rfl (by kernel_rfl) (by kernel_rfl) (by kernel_rfl) (fun _ _ _ h => h) (by rfl) ?_ (by assumption) ?_
        rotate_left
        · (intro w hSw; (try dsimp only at hSw); go_simp; (try with_reducible rfl))
        (try simp only [getElem_toArray, getElem_cons_succ, getElem_cons_zero, Act.put, setIfInBounds_toArray, set_cons_zero, set_cons_succ])
        refine tk 30 ?_ rfl (by kernel_rfl) (by kernel_rfl) (by kernel_rfl) (fun _ _ _ h => h) (by rfl) ?_ (by assumption) ?_
        rotate_left
        · (intro w hSw; (try dsimp only at hSw); go_simp; (try with_reducible rfl))
        (try simp only [getElem_toArray, getElem_cons_succ, getElem_cons_zero, Act.put, setIfInBounds_toArray, set_cons_zero, set_cons_succ])
        refine tk 31 ?_ rfl (by kernel_rfl) (by kernel_rfl) (by kernel_rfl) (fun _ _ _ h => h) (by rfl) ?_ (by assumption) ?_
        rotate_left
        · (intro w hSw; (try dsimp only at hSw); go_simp; (try with_reducible rfl))
        (try simp only [getElem_toArray, getElem_cons_succ, getElem_cons_zero, Act.put, setIfInBounds_toArray, set_cons_zero, set_cons_succ])
        refine tk 32 ?_ rfl (by kernel_rfl) (by kernel_rfl) (by kernel_rfl) (fun _ _ _ h => h) (by rfl) ?_ (by assumption) ?_
        rotate_left
        · (intro w hSw; (try dsimp only at hSw); go_simp; (try with_reducible rfl))
        (try simp only [getElem_toArray, getElem_cons_succ, getElem_cons_zero, Act.put, setIfInBounds_toArray, set_cons_zero, set_cons_succ])
        refine tk 33 ?_ rfl (by kernel_rfl) (by kernel_rfl) (by kernel_rfl) (fun _ _ _ h => h) (by rfl) ?_ (by assumption) ?_
        rotate_left
        · (intro w hSw; (try dsimp only at hSw); go_simp; (try with_reducible rfl))
        (try simp only [getElem_toArray, getElem_cons_succ, getElem_cons_zero, Act.put, setIfInBounds_toArray, set_cons_zero, set_cons_succ])
        refine tk 35 ?_ rfl (by kernel_rfl) (by kernel_rfl) (by kernel_rfl) (fun _ _ _ h => h) (by rfl) ?_ (by assumption) ?_
        rotate_left
        · (intro w hSw; (try dsimp only at hSw); go_simp; (try with_reducible rfl))
        (try simp only [getElem_toArray, getElem_cons_succ, getElem_cons_zero, Act.put, setIfInBounds_toArray, set_cons_zero, set_cons_succ])
        refine tk 36 ?_ rfl (by kernel_rfl) (by kernel_rfl) (by kernel_rfl) (fun _ _ _ h => h) (by rfl) ?_ (by assumption) ?_
        rotate_left
        · (intro w hSw; (try dsimp only at hSw); go_simp; (try with_reducible rfl))
        (try simp only [getElem_toArray, getElem_cons_succ, getElem_cons_zero, Act.put, setIfInBounds_toArray, set_cons_zero, set_cons_succ])
        refine rd1 34 (by kernel_rfl) rfl (fun K hK => ?_)
        go_simp
        go_at_call 49
        refine (lcompare_v g18 g19 g20 V0.out g12 g13 g14 V1.out HKC.out (by decide)).mono ?_
        rintro e w520 ⟨rfl, hb⟩
        replace g15 := g15.below hb
        replace g16 := g16.below hb
        replace g17 := g17.below hb
        replace g21 := g21.below hb
        replace g22 := g22.below hb
        replace g23 := g23.below hb
        replace g18 := g18.below hb
        replace g19 := g19.below hb
        replace g20 := g20.below hb
        replace g12 := g12.below hb
        replace g13 := g13.below hb
        replace g14 := g14.below hb
        replace b4 := b4.below hb
        replace b5 := b5.below hb
        replace b6 := b6.below hb
        replace b7 := b7.below hb
        replace H0 := H0.trans (hb.mono H0.size)
        clear hb
        go_wp2_with fail
        refine hK.out _ _ (b4.and6 (b5.and6 (b6.and6 (b7.all6)))) (fun hHeld => ?_)
        clear hK K
        (try simp only [getElem_toArray, getElem_cons_succ, getElem_cons_zero, Act.put, setIfInBounds_toArray, set_cons_zero, set_cons_succ])
        refine rd1 37 (by kernel_rfl) rfl (fun K hK => ?_)
        go_simp
        go_at_call 45
        refine (gcmp_v g21 g22 g23 g15 g16 g17 HKC.out (by decide) (by decide)).mono ?_
        rintro e w521 ⟨rfl, hb⟩
        replace g15 := g15.below hb
        replace g16 := g16.below hb
        replace g17 := g17.below hb
        replace g21 := g21.below hb
        replace g22 := g22.below hb
        replace g23 := g23.below hb
        replace g18 := g18.below hb
        replace g19 := g19.below hb
        replace g20 := g20.below hb
        replace g12 := g12.below hb
        replace g13 := g13.below hb
        replace g14 := g14.below hb
        replace b4 := b4.below hb
        replace b5 := b5.below hb
        replace b6 := b6.below hb
        replace b7 := b7.below hb
        replace H0 := H0.trans (hb.mono H0.size)
        clear hb
        go_wp2_with fail
        refine hK.out _ _ (b4.and6 (b5.and6 (b6.and6 (b7.all6)))) (fun hHeld => ?_)
        clear hK K
        (try simp only [getElem_toArray, getElem_cons_succ, getElem_cons_zero, Act.put, setIfInBounds_toArray, set_cons_zero, set_cons_succ])
        refine tk 38 ?_ rfl (by kernel_rfl) (by kernel_rfl) (by kernel_rfl) (fun _ _ _ h => h) (by rfl) ?_ (by assumption) ?_
        rotate_left
        · (intro w hSw; (try dsimp only at hSw); go_simp; (try with_reducible rfl))
        (try simp only [getElem_toArray, getElem_cons_succ, getElem_cons_zero, Act.put, setIfInBounds_toArray, set_cons_zero, set_cons_succ])
        refine tk 39 ?_ rfl (by kernel_rfl) (by kernel_rfl) (by kernel_rfl) (fun _ _ _ h => h) (by rfl) ?_ (by assumption) ?_
        rotate_left
        · (intro w hSw; (try dsimp only at hSw); go_simp; (try with_reducible rfl))
        (try simp only [getElem_toArray, getElem_cons_succ, getElem_cons_zero, Act.put, setIfInBounds_toArray, set_cons_zero, set_cons_succ])
        refine tk 40 ?_ rfl (by kernel_rfl) (by kernel_rfl) (by kernel_rfl) (fun _ _ _ h => h) (by rfl) ?_ (by assumption) ?_
        rotate_left
        · (intro w hSw; (try dsimp only at hSw); go_simp; (try with_reducible rfl))
        (try simp only [getElem_toArray, getElem_cons_succ, getElem_cons_zero, Act.put, setIfInBounds_toArray, set_cons_zero, set_cons_succ])
        refine wpAnyH_done (by kernel_rfl) ?_ _
        refine NoPanic.normal ?_
        go_wp2_with fail
        go_returns
        exact ⟨rfl, H0⟩
  case first =>
    intro K' HK0
    have HKX := Lib.hid HK0
    clear HK0
    rcases Decidable.em (r = 0) with hr0 | hr0
    · subst hr0
      clear hr V1
      clear g15
      clear g16
      clear g17
      obtain ⟨cb40, cb41, cb42, cb43, cb44, cb45⟩ := b4.cells6
      obtain ⟨cb50, yb50, cb51, yb51, cb52, yb52, cb53, yb53, cb54, yb54, cb55, yb55⟩ := b5.cf6
      go_wp2_with fail
      clear cb40 cb41 cb42 cb43 cb44 cb45 cb50 yb50 cb51 yb51 cb52 yb52 cb53 yb53 cb54 yb54 cb55 yb55
      have hg := only_store6 w5 (w3.heap.size + 1) (.bool s21) (.slice A21 n21 c21) (.bool s22) (.slice A22 n22 c22) (.bool s23) (.slice A23 n23 c23)
      have hB := b5.stored6 (.bool s21) (.slice A21 n21 c21) (.bool s22) (.slice A22 n22 c22) (.bool s23) (.slice A23 n23 c23)
      generalize hX : ((((((w5.setCell ⟨w3.heap.size + 1, 0, none⟩ (.bool s21)).setCell ⟨w3.heap.size + 1, 1, none⟩ (.slice A21 n21 c21)).setCell ⟨w3.heap.size + 1, 2, none⟩ (.bool s22)).setCell ⟨w3.heap.size + 1, 3, none⟩ (.slice A22 n22 c22)).setCell ⟨w3.heap.size + 1, 4, none⟩ (.bool s23)).setCell ⟨w3.heap.size + 1, 5, none⟩ (.slice A23 n23 c23)) = X6 at hg hB ⊢
      clear hX
      replace g21 := g21.kept b5 (by simp [notInt]) hg
      replace g22 := g22.kept b5 (by simp [notInt]) hg
      replace g23 := g23.kept b5 (by simp [notInt]) hg
      replace b4 := b4.other hg (by omega)
      replace b5 := hB
      replace H0 := below_only H0 hg (by omega) H0.size
      clear hg hB
      go_wp2_with fail
      refine HKX.out _ _ ⟨_, _, _, _, _, _, _, _, _, _, _, _, z0, z1, z2, _, _, _, _, _, _, _, _, _, _, _, _, rfl, V0.out, g21, g22, g23, g21, g22, g23, b4, b5, H0⟩
    · have e0 : (((r : Nat) : Int) == 0) = false := by rw [beq_eq_false_iff_ne]; omega
      rcases Decidable.em (r = 1) with hr1 | hr1
      · subst hr1
        clear hr hr0 e0 V1
        clear g15
        clear g16
        clear g17
        obtain ⟨cb40, cb41, cb42, cb43, cb44, cb45⟩ := b4.cells6
        go_wp2_with fail
        clear cb40 cb41 cb42 cb43 cb44 cb45
        refine (grev_v g21 g22 g23).mono ?_
        rintro e w6 ⟨s12, A12, n12, c12, s13, A13, n13, c13, s14, A14, n14, c14, rfl, g12, g13, g14, hb⟩
        replace g21 := g21.below hb
        replace g22 := g22.below hb
        replace g23 := g23.below hb
        replace b4 := b4.below hb
        replace b5 := b5.below hb
        replace H0 := H0.trans (hb.mono H0.size)
        clear hb
        obtain ⟨cb50, yb50, cb51, yb51, cb52, yb52, cb53, yb53, cb54, yb54, cb55, yb55⟩ := b5.cf6
        go_wp2_with fail
        clear cb50 yb50 cb51 yb51 cb52 yb52 cb53 yb53 cb54 yb54 cb55 yb55
        have hg := only_store6 w6 (w3.heap.size + 1) (.bool s12) (.slice A12 n12 c12) (.bool s13) (.slice A13 n13 c13) (.bool s14) (.slice A14 n14 c14)
        have hB := b5.stored6 (.bool s12) (.slice A12 n12 c12) (.bool s13) (.slice A13 n13 c13) (.bool s14) (.slice A14 n14 c14)
        generalize hX : ((((((w6.setCell ⟨w3.heap.size + 1, 0, none⟩ (.bool s12)).setCell ⟨w3.heap.size + 1, 1, none⟩ (.slice A12 n12 c12)).setCell ⟨w3.heap.size + 1, 2, none⟩ (.bool s13)).setCell ⟨w3.heap.size + 1, 3, none⟩ (.slice A13 n13 c13)).setCell ⟨w3.heap.size + 1, 4, none⟩ (.bool s14)).setCell ⟨w3.heap.size + 1, 5, none⟩ (.slice A14 n14 c14)) = X7 at hg hB ⊢
        clear hX
        replace g21 := g21.kept b5 (by simp [notInt]) hg
        replace g22 := g22.kept b5 (by simp [notInt]) hg
        replace g23 := g23.kept b5 (by simp [notInt]) hg
        replace g12 := g12.kept b5 (by simp [notInt]) hg
        replace g13 := g13.kept b5 (by simp [notInt]) hg
        replace g14 := g14.kept b5 (by simp [notInt]) hg
        replace b4 := b4.other hg (by omega)
        replace b5 := hB
        replace H0 := below_only H0 hg (by omega) H0.size
        clear hg hB
        go_wp2_with fail
        refine HKX.out _ _ ⟨_, _, _, _, _, _, _, _, _, _, _, _, _, _, _, _, _, _, _, _, _, _, _, _, _, _, _, rfl, vl_neg V0.out, g12, g13, g14, g21, g22, g23, b4, b5, H0⟩
      · have e1 : (((r : Nat) : Int) == 1) = false := by rw [beq_eq_false_iff_ne]; omega
        go_wp2_with fail
        refine HKX.out _ _ ⟨_, _, _, _, _, _, _, _, _, _, _, _, z3, z4, z5, _, _, _, _, _, _, _, _, _, _, _, _, rfl, V1.out, g15, g16, g17, g21, g22, g23, b4, b5, H0⟩
end
end Go.Proofs.YtancgkmkbgkncaaGreat
