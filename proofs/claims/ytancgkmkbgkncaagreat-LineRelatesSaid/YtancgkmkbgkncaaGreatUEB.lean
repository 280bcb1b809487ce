/-
  What some of the statements need.
-/
import Derived.Test.YtancgkmkbgkncaaGreatUSq
import Derived.Test.YtancgkmkbgkncaaGreatUBox
import Derived.Test.YtancgkmkbgkncaaGreatUDivLong
import Derived.Test.YtancgkmkbgkncaaGreatUFormI
import Derived.Test.YtancgkmkbgkncaaGreatUIGcd
import Derived.Test.YtancgkmkbgkncaaGreatUK1
import Derived.Test.YtancgkmkbgkncaaGreatUK2
import Derived.Test.YtancgkmkbgkncaaGreatUK3
import Derived.Test.YtancgkmkbgkncaaGreatUK4
import Derived.Test.YtancgkmkbgkncaaGreatUK5
import Derived.Test.YtancgkmkbgkncaaGreatUK6
import Derived.Test.YtancgkmkbgkncaaGreatUK7
import Derived.Test.YtancgkmkbgkncaaGreatUK8
import Derived.Test.YtancgkmkbgkncaaGreatUK9
import Derived.Test.YtancgkmkbgkncaaGreatULnA
import Derived.Test.YtancgkmkbgkncaaGreatULnB
import Derived.Test.YtancgkmkbgkncaaGreatULnC
import Derived.Test.YtancgkmkbgkncaaGreatULnD
import Derived.Test.YtancgkmkbgkncaaGreatULnG
import Derived.Test.YtancgkmkbgkncaaGreatULnM
import Derived.Test.YtancgkmkbgkncaaGreatULnP
import Derived.Test.YtancgkmkbgkncaaGreatULnQ
import Derived.Test.YtancgkmkbgkncaaGreatULnV
import Derived.Test.YtancgkmkbgkncaaGreatUN1
import Derived.Test.YtancgkmkbgkncaaGreatUOrd
import Derived.Test.YtancgkmkbgkncaaGreatUPhase
import Derived.Test.YtancgkmkbgkncaaGreatUPtA
import Derived.Test.YtancgkmkbgkncaaGreatUPtG
import Derived.Test.YtancgkmkbgkncaaGreatUR1
import Derived.Test.YtancgkmkbgkncaaGreatURatA
import Derived.Test.YtancgkmkbgkncaaGreatURatC
import Derived.Test.YtancgkmkbgkncaaGreatURatD
import Derived.Test.YtancgkmkbgkncaaGreatURatR
import Derived.Test.YtancgkmkbgkncaaGreatURatS
import Derived.Test.YtancgkmkbgkncaaGreatUS1
import Derived.Test.YtancgkmkbgkncaaGreatUShelf
import Derived.Deep.Cut
namespace Go.Proofs.YtancgkmkbgkncaaGreat
open List (getElem_toArray getElem_cons_succ getElem_cons_zero setIfInBounds_toArray set_cons_zero set_cons_succ)
open Go.RowKit

theorem info_geopb : (Tryz.prog.info? 48).map (·.size) = some 6 := by kernel_rfl
theorem ret_geopb_b {fn : Func} {p q : Tmp} (h : fn.results = #[.cell p 48, .tmp q]) {tmps : Array Value} {w : World} {g : Nat} {a0 a1 a2 a3 a4 a5 : Value} {t : TypeId} (hp : tmps.getD p undef = .pointer (some ⟨g, 0, none⟩)) (hb : Box w g #[a0, a1, a2, a3, a4, a5] t) :
    (results fn tmps).run Tryz.prog w = .ok (.tuple #[.agg #[a0, a1, a2, a3, a4, a5], tmps.getD q undef]) w := by
  have hp' : tmps[p]?.getD undef = .pointer (some ⟨g, 0, none⟩) := by simpa using hp
  have h1 := run_loadVar_row (P := Tryz.prog) w g t 48 #[a0, a1, a2, a3, a4, a5] (0, 0) _ hb Tryz.underlying48 rfl info_geopb
  simp [results, h, hp', asAddr, h1]
end Go.Proofs.YtancgkmkbgkncaaGreat
namespace Go.Proofs.YtancgkmkbgkncaaGreat
open List (getElem_toArray getElem_cons_succ getElem_cons_zero setIfInBounds_toArray set_cons_zero set_cons_succ)
open Go.RowKit

section
variable {A0 A1 A2 A3 D0 D1 D2 D3 : Option Addr} {n0 n1 n2 n3 c0 c1 c2 c3 m0 m1 m2 m3 e0 e1 e2 e3 : Nat} {s0 s1 s2 s3 : Bool} {z z' z0 z1 z2 : Int} {q q' q0 q1 q2 : Rat} {L L0 L1 L2 x x0 x1 y : Nat} {k : Int} {w : World}
theorem div_mk {z0 z1 : Int} {d0 d1 : Nat} : mkRat z0 d0 / mkRat z1 d1 = Rat.divInt (z0 * (d1 : Int)) (z1 * (d0 : Int)) := by
  rw [Rat.div_def, ← Rat.divInt_ofNat z1 d1, Rat.inv_divInt, ← Rat.divInt_ofNat z0 d0, Rat.divInt_mul_divInt, Int.mul_comm (d0 : Int) z1]
set_option maxRecDepth 100000 in
theorem rnew_zero (h : RI w s0 (.slice A0 n0 c0) z L) (hv : RV w (.slice A1 n1 c1) 0 L) :
    Calls Tryz.prog 127 #[.agg #[.bool s0, .slice A0 n0 c0], .agg #[.bool s1, .slice A1 n1 c1]] w fun e w' => ∃ s3 A3 n3 c3 D3 m3 e3, e = .returned (.tuple #[.agg #[.bool s3, .slice A3 n3 c3, .slice D3 m3 e3], .bool false]) ∧ NQ w' s3 (.slice A3 n3 c3) (.slice D3 m3 e3) 0 2 ∧ Below w.heap.size w w' := by
  go_enter Tryz.func127, Tryz.ntmps127
  go_wp2_with fail
  obtain ⟨W0, hW, b0, b1, b2, hbW, hszW0⟩ := boxes3 w #[.bool s0, .slice A0 n0 c0] #[.bool s1, .slice A1 n1 c1] #[.bool false, .slice none 0 0, .slice none 0 0] 25 25 52
  rw [hW]
  clear hW
  replace h := h.below hbW
  replace hv := hv.below hbW
  have H0 := hbW
  clear hbW
  obtain ⟨cb00, cb01⟩ := b0.cells2
  obtain ⟨cb10, cb11⟩ := b1.cells2
  go_wp2_with fail
  clear cb00 cb01 cb10 cb11
  refine (riszero_v hv (b := true) (by simp)).mono ?_
  rintro e w1 ⟨rfl, hb⟩
  replace h := h.below hb
  replace hv := hv.below hb
  replace b0 := b0.below hb
  replace b1 := b1.below hb
  replace b2 := b2.below hb
  replace H0 := H0.trans (hb.mono H0.size)
  clear hb
  go_wp2_with fail
  refine (rfromint_v 0 (by omega) (by omega) _).mono ?_
  rintro e w2 ⟨s3, A3, n3, c3, D3, m3, e3, rfl, fq, hb⟩
  replace h := h.below hb
  replace hv := hv.below hb
  replace b0 := b0.below hb
  replace b1 := b1.below hb
  replace b2 := b2.below hb
  replace H0 := H0.trans (hb.mono H0.size)
  clear hb
  obtain ⟨cb20, yb20, cb21, yb21, cb22, yb22⟩ := b2.cf3
  go_wp2_with fail
  clear cb20 yb20 cb21 yb21 cb22 yb22
  have hg := only_store3 w2 (w.heap.size + 1 + 1) (.bool s3) (.slice A3 n3 c3) (.slice D3 m3 e3)
  have hB := b2.stored3 (.bool s3) (.slice A3 n3 c3) (.slice D3 m3 e3)
  generalize hX : (((w2.setCell ⟨w.heap.size + 1 + 1, 0, none⟩ (.bool s3)).setCell ⟨w.heap.size + 1 + 1, 1, none⟩ (.slice A3 n3 c3)).setCell ⟨w.heap.size + 1 + 1, 2, none⟩ (.slice D3 m3 e3)) = X3 at hg hB ⊢
  clear hX
  replace h := h.kept b2 (by simp [notInt]) hg
  replace hv := hv.kept b2 (by simp [notInt]) hg
  replace fq := fq.kept b2 (by simp [notInt]) hg
  replace b0 := b0.other hg (by omega)
  replace b1 := b1.other hg (by omega)
  replace b2 := hB
  replace H0 := below_only H0 hg (by omega) H0.size
  clear hg hB
  refine bodyPost_ret (ret_rat_b rfl rfl b2) rfl ?_
  exact ⟨s3, A3, n3, c3, D3, m3, e3, rfl, fq.more (by omega), H0⟩
end
end Go.Proofs.YtancgkmkbgkncaaGreat
namespace Go.Proofs.YtancgkmkbgkncaaGreat
open List (getElem_toArray getElem_cons_succ getElem_cons_zero setIfInBounds_toArray set_cons_zero set_cons_succ)
open Go.RowKit

section
variable {A0 A1 A2 A3 A4 A5 A6 A7 A8 A9 A10 A11 A12 A13 D0 D1 D2 D3 D4 D5 D6 D7 D8 D9 D10 D11 D12 D13 : Option Addr} {n0 n1 n2 n3 n4 n5 n6 n7 n8 n9 n10 n11 n12 n13 c0 c1 c2 c3 c4 c5 c6 c7 c8 c9 c10 c11 c12 c13 m0 m1 m2 m3 m4 m5 m6 m7 m8 m9 m10 m11 m12 m13 e0 e1 e2 e3 e4 e5 e6 e7 e8 e9 e10 e11 e12 e13 : Nat} {s0 s1 s2 s3 s4 s5 s6 s7 s8 s9 s10 s11 s12 s13 : Bool} {q0 q1 q2 q3 q4 q5 q6 q7 : Rat} {z0 z1 z2 z3 z4 z5 z6 z7 z8 z9 z10 z11 : Int} {L L0 L1 x y : Nat} {k : Int} {b : Bool} {w : World}
set_option maxRecDepth 100000 in
set_option maxHeartbeats 4000000 in
theorem lpoint_z (h0 : RI w s0 (.slice A0 n0 c0) z0 L) (h2 : RI w s2 (.slice A2 n2 c2) z2 L) (hz : z2 = 0) :
    Calls Tryz.prog 93 #[.agg #[.bool s0, .slice A0 n0 c0, .bool s1, .slice A1 n1 c1, .bool s2, .slice A2 n2 c2]] w fun e w' => e = .returned (.tuple #[.agg #[.bool false, .slice none 0 0, .slice none 0 0, .bool false, .slice none 0 0, .slice none 0 0], .bool false]) ∧ Below w.heap.size w w' := by
  have HZ : Hid (RV w (.slice A2 n2 c2) 0 L) := Lib.hid (by have := h2.rv; rwa [hz] at this)
  clear hz h2
  go_enter Tryz.func93, Tryz.ntmps93
  go_wp2_with fail
  obtain ⟨W0, hW, b0, b9, hbW, hszW0⟩ := boxes2 w #[.bool s0, .slice A0 n0 c0, .bool s1, .slice A1 n1 c1, .bool s2, .slice A2 n2 c2] #[.bool false, .slice none 0 0, .slice none 0 0, .bool false, .slice none 0 0, .slice none 0 0] 106 54
  rw [hW]
  clear hW
  replace h0 := h0.below hbW
  have H0 := hbW
  clear hbW
  obtain ⟨cb00, cb01, cb02, cb03, cb04, cb05⟩ := b0.cells6
  go_wp2_with fail
  clear cb00 cb01 cb02 cb03 cb04 cb05
  refine (rnew_zero h0 (HZ.out.below H0)).mono ?_
  rintro e w1 ⟨s3, A3, n3, c3, D3, m3, e3, rfl, g3, hb⟩
  replace h0 := h0.below hb
  replace b0 := b0.below hb
  replace b9 := b9.below hb
  replace H0 := H0.trans (hb.mono H0.size)
  clear hb
  have lb0_2 := b0.lt
  have lb9_2 := b9.lt
  obtain ⟨W2, hW, b5, hbW, hszW2⟩ := boxes1 w1 #[.bool s3, .slice A3 n3 c3, .slice D3 m3 e3] 52
  skip
  skip
  replace h0 := h0.below hbW
  replace g3 := g3.below hbW
  replace b0 := b0.below hbW
  replace b9 := b9.below hbW
  replace H0 := H0.trans (hbW.mono H0.size)
  clear hbW
  obtain ⟨cb90, yb90, cb91, yb91, cb92, yb92, cb93, yb93, cb94, yb94, cb95, yb95⟩ := b9.cf6
  go_wp2_with fail
  clear hW
  clear cb90 yb90 cb91 yb91 cb92 yb92 cb93 yb93 cb94 yb94 cb95 yb95
  obtain ⟨cb90, yb90, cb91, yb91, cb92, yb92, cb93, yb93, cb94, yb94, cb95, yb95⟩ := b9.cf6
  clear cb90 yb90 cb91 yb91 cb92 yb92 cb93 yb93 cb94 yb94 cb95 yb95
  have hg := only_store6 W2 (w.heap.size + 1) (.bool false) (.slice none 0 0) (.slice none 0 0) (.bool false) (.slice none 0 0) (.slice none 0 0)
  have hB := b9.stored6 (.bool false) (.slice none 0 0) (.slice none 0 0) (.bool false) (.slice none 0 0) (.slice none 0 0)
  generalize hX : ((((((W2.setCell ⟨w.heap.size + 1, 0, none⟩ (.bool false)).setCell ⟨w.heap.size + 1, 1, none⟩ (.slice none 0 0)).setCell ⟨w.heap.size + 1, 2, none⟩ (.slice none 0 0)).setCell ⟨w.heap.size + 1, 3, none⟩ (.bool false)).setCell ⟨w.heap.size + 1, 4, none⟩ (.slice none 0 0)).setCell ⟨w.heap.size + 1, 5, none⟩ (.slice none 0 0)) = X3 at hg hB ⊢
  clear hX
  replace h0 := h0.kept b9 (by simp [notInt]) hg
  replace g3 := g3.kept b9 (by simp [notInt]) hg
  replace b0 := b0.other hg (by omega)
  replace b5 := b5.other hg (by omega)
  replace b9 := hB
  replace H0 := below_only H0 hg (by omega) H0.size
  clear hg hB
  refine bodyPost_ret (ret_pointb_b rfl rfl b9) rfl ?_
  exact ⟨rfl, H0⟩
end
end Go.Proofs.YtancgkmkbgkncaaGreat
namespace Go.Proofs.YtancgkmkbgkncaaGreat
open List (getElem_toArray getElem_cons_succ getElem_cons_zero setIfInBounds_toArray set_cons_zero set_cons_succ)
open Go.RowKit

section
variable {A0 A1 A2 A3 A4 A5 A6 A7 D0 D1 D2 D3 D4 D5 D6 D7 : Option Addr} {n0 n1 n2 n3 n4 n5 n6 n7 c0 c1 c2 c3 c4 c5 c6 c7 m0 m1 m2 m3 m4 m5 m6 m7 e0 e1 e2 e3 e4 e5 e6 e7 : Nat} {s0 s1 s2 s3 s4 s5 s6 s7 : Bool} {q0 q1 q2 q3 q4 q5 q6 q7 : Rat} {z z' z0 z1 : Int} {L L0 L1 x x0 x1 y : Nat} {k : Int} {b : Bool} {w : World}
set_option maxRecDepth 100000 in
set_option maxHeartbeats 4000000 in
theorem gcross_v (h : PQ w s0 (.slice A0 n0 c0) (.slice D0 m0 e0) q0 L) (h' : PQ w s1 (.slice A1 n1 c1) (.slice D1 m1 e1) q1 L) (k1 : PQ w s2 (.slice A2 n2 c2) (.slice D2 m2 e2) q2 L0) (k1' : PQ w s3 (.slice A3 n3 c3) (.slice D3 m3 e3) q3 L0) (hL : L ≤ 45) (hL0 : L0 ≤ 45) :
    Calls Tryz.prog 104 #[.agg #[.bool s0, .slice A0 n0 c0, .slice D0 m0 e0, .bool s1, .slice A1 n1 c1, .slice D1 m1 e1], .agg #[.bool s2, .slice A2 n2 c2, .slice D2 m2 e2, .bool s3, .slice A3 n3 c3, .slice D3 m3 e3]] w fun e w' => ∃ s6 A6 n6 c6 D6 m6 e6, e = .returned (.agg #[.bool s6, .slice A6 n6 c6, .slice D6 m6 e6]) ∧ PQ w' s6 (.slice A6 n6 c6) (.slice D6 m6 e6) (q0 * q3 - q1 * q2) (2 * (max L 1 + max L0 1) + 3) ∧ Below w.heap.size w w' := by
  go_enter Tryz.func104, Tryz.ntmps104
  go_wp2_with fail
  obtain ⟨W0, hW, b0, b1, b9, hbW, hszW0⟩ := boxes3 w #[.bool s0, .slice A0 n0 c0, .slice D0 m0 e0, .bool s1, .slice A1 n1 c1, .slice D1 m1 e1] #[.bool s2, .slice A2 n2 c2, .slice D2 m2 e2, .bool s3, .slice A3 n3 c3, .slice D3 m3 e3] #[.bool false, .slice none 0 0, .slice none 0 0] 48 48 46
  rw [hW]
  clear hW
  replace h := h.below hbW
  replace h' := h'.below hbW
  replace k1 := k1.below hbW
  replace k1' := k1'.below hbW
  have H0 := hbW
  clear hbW
  have hD := drawn_below W0
  replace h := h.below hD
  replace h' := h'.below hD
  replace k1 := k1.below hD
  replace k1' := k1'.below hD
  replace b0 := b0.below hD
  replace b1 := b1.below hD
  replace b9 := b9.below hD
  replace H0 := H0.trans (hD.mono H0.size)
  clear hD
  refine wp_region_noPanic ?_
  refine wp_region_held_drew (S := (fun V => V.cell? ⟨w.heap.size, 0, none⟩ = some (.bool s0) ∧ V.cell? ⟨w.heap.size, 1, none⟩ = some (.slice A0 n0 c0) ∧ V.cell? ⟨w.heap.size, 2, none⟩ = some (.slice D0 m0 e0) ∧ V.cell? ⟨w.heap.size, 3, none⟩ = some (.bool s1) ∧ V.cell? ⟨w.heap.size, 4, none⟩ = some (.slice A1 n1 c1) ∧ V.cell? ⟨w.heap.size, 5, none⟩ = some (.slice D1 m1 e1) ∧ V.cell? ⟨w.heap.size + 1, 0, none⟩ = some (.bool s2) ∧ V.cell? ⟨w.heap.size + 1, 1, none⟩ = some (.slice A2 n2 c2) ∧ V.cell? ⟨w.heap.size + 1, 2, none⟩ = some (.slice D2 m2 e2) ∧ V.cell? ⟨w.heap.size + 1, 3, none⟩ = some (.bool s3) ∧ V.cell? ⟨w.heap.size + 1, 4, none⟩ = some (.slice A3 n3 c3) ∧ V.cell? ⟨w.heap.size + 1, 5, none⟩ = some (.slice D3 m3 e3))) (by kernel_rfl) (b0.and6 (b1.all6)) (fun hHeld => ?_)
  generalize W0.drew = v1 at H0 hHeld h h' k1 k1' b0 b1 b9 ⊢
  refine tk 0 ?_ rfl (by kernel_rfl) (by kernel_rfl) (by kernel_rfl) (fun _ _ _ h => h) (by rfl) ?_ (by assumption) ?_
  rotate_left
  · (intro w hSw; (try dsimp only at hSw); go_simp; (try with_reducible rfl))
  (try simp only [getElem_toArray, getElem_cons_zero, Act.put, setIfInBounds_toArray, set_cons_zero, set_cons_succ])
  refine tk 2 ?_ rfl (by kernel_rfl) (by kernel_rfl) (by kernel_rfl) (fun _ _ _ h => h) (by rfl) ?_ (by assumption) ?_
  rotate_left
  · (intro w hSw; (try dsimp only at hSw); go_simp; (try with_reducible rfl))
  (try simp only [getElem_toArray, getElem_cons_succ, getElem_cons_zero, Act.put, setIfInBounds_toArray, set_cons_zero, set_cons_succ])
  refine tk 5 ?_ rfl (by kernel_rfl) (by kernel_rfl) (by kernel_rfl) (fun _ _ _ h => h) (by rfl) ?_ (by assumption) ?_
  rotate_left
  · (intro w hSw; (try dsimp only at hSw); go_simp; (try with_reducible rfl))
  (try simp only [getElem_toArray, getElem_cons_succ, getElem_cons_zero, Act.put, setIfInBounds_toArray, set_cons_zero, set_cons_succ])
  refine tk 7 ?_ rfl (by kernel_rfl) (by kernel_rfl) (by kernel_rfl) (fun _ _ _ h => h) (by rfl) ?_ (by assumption) ?_
  rotate_left
  · (intro w hSw; (try dsimp only at hSw); go_simp; (try with_reducible rfl))
  (try simp only [getElem_toArray, getElem_cons_succ, getElem_cons_zero, Act.put, setIfInBounds_toArray, set_cons_zero, set_cons_succ])
  refine tk 1 ?_ rfl (by kernel_rfl) (by kernel_rfl) (by kernel_rfl) (fun _ _ _ h => h) (by rfl) ?_ (by assumption) ?_
  rotate_left
  · (intro w hSw; (try dsimp only at hSw); go_simp; (try with_reducible rfl))
  (try simp only [getElem_toArray, getElem_cons_succ, getElem_cons_zero, Act.put, setIfInBounds_toArray, set_cons_zero, set_cons_succ])
  refine tk 3 ?_ rfl (by kernel_rfl) (by kernel_rfl) (by kernel_rfl) (fun _ _ _ h => h) (by rfl) ?_ (by assumption) ?_
  rotate_left
  · (intro w hSw; (try dsimp only at hSw); go_simp; (try with_reducible rfl))
  (try simp only [getElem_toArray, getElem_cons_succ, getElem_cons_zero, Act.put, setIfInBounds_toArray, set_cons_zero, set_cons_succ])
  refine tk 6 ?_ rfl (by kernel_rfl) (by kernel_rfl) (by kernel_rfl) (fun _ _ _ h => h) (by rfl) ?_ (by assumption) ?_
  rotate_left
  · (intro w hSw; (try dsimp only at hSw); go_simp; (try with_reducible rfl))
  (try simp only [getElem_toArray, getElem_cons_succ, getElem_cons_zero, Act.put, setIfInBounds_toArray, set_cons_zero, set_cons_succ])
  refine tk 8 ?_ rfl (by kernel_rfl) (by kernel_rfl) (by kernel_rfl) (fun _ _ _ h => h) (by rfl) ?_ (by assumption) ?_
  rotate_left
  · (intro w hSw; (try dsimp only at hSw); go_simp; (try with_reducible rfl))
  (try simp only [getElem_toArray, getElem_cons_succ, getElem_cons_zero, Act.put, setIfInBounds_toArray, set_cons_zero, set_cons_succ])
  refine rd1 4 (by kernel_rfl) rfl (fun K hK => ?_)
  go_simp
  go_at_call 70
  refine (ntimes_v h k1' (by omega) (by omega)).mono ?_
  rintro e w2 ⟨s4, A4, n4, c4, D4, m4, e4, rfl, g4, hb⟩
  replace h := h.below hb
  replace h' := h'.below hb
  replace k1 := k1.below hb
  replace k1' := k1'.below hb
  replace b0 := b0.below hb
  replace b1 := b1.below hb
  replace b9 := b9.below hb
  replace H0 := H0.trans (hb.mono H0.size)
  clear hb
  go_wp2_with fail
  refine hK.out _ _ (b0.and6 (b1.all6)) (fun hHeld => ?_)
  clear hK K
  (try simp only [getElem_toArray, getElem_cons_succ, getElem_cons_zero, Act.put, setIfInBounds_toArray, set_cons_zero, set_cons_succ])
  refine rd1 9 (by kernel_rfl) rfl (fun K hK => ?_)
  go_simp
  go_at_call 70
  refine (ntimes_v h' k1 (by omega) (by omega)).mono ?_
  rintro e w3 ⟨s5, A5, n5, c5, D5, m5, e5, rfl, g5, hb⟩
  replace h := h.below hb
  replace h' := h'.below hb
  replace k1 := k1.below hb
  replace k1' := k1'.below hb
  replace g4 := g4.below hb
  replace b0 := b0.below hb
  replace b1 := b1.below hb
  replace b9 := b9.below hb
  replace H0 := H0.trans (hb.mono H0.size)
  clear hb
  go_wp2_with fail
  refine hK.out _ _ (b0.and6 (b1.all6)) (fun hHeld => ?_)
  clear hK K
  (try simp only [getElem_toArray, getElem_cons_succ, getElem_cons_zero, Act.put, setIfInBounds_toArray, set_cons_zero, set_cons_succ])
  refine rd1 10 (by kernel_rfl) rfl (fun K hK => ?_)
  go_simp
  go_at_call 99
  refine (nqsub_v g4 g5 (by omega) (by omega)).mono ?_
  rintro e w4 ⟨s6, A6, n6, c6, D6, m6, e6, rfl, g6, hb⟩
  replace h := h.below hb
  replace h' := h'.below hb
  replace k1 := k1.below hb
  replace k1' := k1'.below hb
  replace g4 := g4.below hb
  replace g5 := g5.below hb
  replace b0 := b0.below hb
  replace b1 := b1.below hb
  replace b9 := b9.below hb
  replace H0 := H0.trans (hb.mono H0.size)
  clear hb
  clear g4
  clear g5
  go_wp2_with fail
  refine hK.out _ _ (b0.and6 (b1.all6)) (fun hHeld => ?_)
  clear hK K
  (try simp only [getElem_toArray, getElem_cons_succ, getElem_cons_zero, Act.put, setIfInBounds_toArray, set_cons_zero, set_cons_succ])
  obtain ⟨cb90, yb90, cb91, yb91, cb92, yb92⟩ := b9.cf3
  refine rd1 11 (by kernel_rfl) rfl (fun K hK => ?_)
  go_simp
  clear cb90 yb90 cb91 yb91 cb92 yb92
  have hg := only_store3 w4 (w.heap.size + 1 + 1) (.bool s6) (.slice A6 n6 c6) (.slice D6 m6 e6)
  have hB := b9.stored3 (.bool s6) (.slice A6 n6 c6) (.slice D6 m6 e6)
  generalize hX : (((w4.setCell ⟨w.heap.size + 1 + 1, 0, none⟩ (.bool s6)).setCell ⟨w.heap.size + 1 + 1, 1, none⟩ (.slice A6 n6 c6)).setCell ⟨w.heap.size + 1 + 1, 2, none⟩ (.slice D6 m6 e6)) = X5 at hg hB ⊢
  clear hX
  replace h := h.kept b9 (by simp [notInt]) hg
  replace h' := h'.kept b9 (by simp [notInt]) hg
  replace k1 := k1.kept b9 (by simp [notInt]) hg
  replace k1' := k1'.kept b9 (by simp [notInt]) hg
  replace g6 := g6.kept b9 (by simp [notInt]) hg
  replace b0 := b0.other hg (by omega)
  replace b1 := b1.other hg (by omega)
  replace b9 := hB
  replace H0 := below_only H0 hg (by omega) H0.size
  clear hg hB
  refine hK.out _ _ (b0.and6 (b1.all6)) (fun hHeld => ?_)
  clear hK K
  (try simp only [getElem_toArray, getElem_cons_succ, getElem_cons_zero, Act.put, setIfInBounds_toArray, set_cons_zero, set_cons_succ])
  refine wpAnyH_done (by kernel_rfl) ?_ _
  refine NoPanic.normal ?_
  go_wp2_with fail
  refine bodyPost_ret (ret_numq rfl rfl b9) rfl ?_
  exact ⟨s6, A6, n6, c6, D6, m6, e6, rfl, g6.more (by omega), H0⟩
end
end Go.Proofs.YtancgkmkbgkncaaGreat
namespace Go.Proofs.YtancgkmkbgkncaaGreat
open List (getElem_toArray getElem_cons_succ getElem_cons_zero setIfInBounds_toArray set_cons_zero set_cons_succ)
open Go.RowKit

section
variable {A0 A1 A2 A3 D0 D1 D2 D3 : Option Addr} {n0 n1 n2 n3 c0 c1 c2 c3 m0 m1 m2 m3 e0 e1 e2 e3 : Nat} {s0 s1 s2 s3 : Bool} {z z' z0 z1 z2 : Int} {q q' q0 q1 q2 : Rat} {L L0 L1 L2 x x0 x1 y : Nat} {k : Int} {w : World}
theorem over_mk {q q' : Rat} {s : Bool} (hs : s = decide (q'.num < 0)) : mkRat (q.num * sg s q'.den) (q.den * q'.num.natAbs) = q / q' := by
  have h0 : q / q' = mkRat q.num q.den / mkRat q'.num q'.den := by rw [Rat.mkRat_self, Rat.mkRat_self]
  rw [h0, div_mk]
  have hsg : q'.num = sg s q'.num.natAbs := by
    subst hs
    by_cases h : q'.num < 0
    · rw [decide_eq_true h, sg_true]; omega
    · rw [decide_eq_false h, sg_false]; omega
  generalize q'.num.natAbs = m at hsg ⊢
  rw [hsg]
  cases s
  · rw [sg_false, sg_false, ← Rat.divInt_ofNat, Int.natCast_mul, Int.mul_comm (m : Int)]
  · rw [sg_true, sg_true, Int.neg_mul, Rat.divInt_neg', ← Rat.divInt_ofNat, Int.natCast_mul, Int.mul_comm (m : Int), Int.mul_neg]
theorem over_ne {q' : Rat} (h : q' ≠ 0) : q'.num.natAbs ≠ 0 := fun h1 => h (Rat.num_eq_zero.1 (by omega))
set_option maxRecDepth 100000 in
set_option maxHeartbeats 800000 in
theorem nover_v (h : PQ w s0 (.slice A0 n0 c0) (.slice D0 m0 e0) q L) (h' : PQ w s1 (.slice A1 n1 c1) (.slice D1 m1 e1) q' L0) (hL : L ≤ 100) (hL' : L0 ≤ 100) (h0 : q' ≠ 0) :
    Calls Tryz.prog 89 #[.agg #[.bool s0, .slice A0 n0 c0, .slice D0 m0 e0], .agg #[.bool s1, .slice A1 n1 c1, .slice D1 m1 e1]] w fun e w' => ∃ s3 A3 n3 c3 D3 m3 e3, e = .returned (.agg #[.bool s3, .slice A3 n3 c3, .slice D3 m3 e3]) ∧ PQ w' s3 (.slice A3 n3 c3) (.slice D3 m3 e3) (q / q') (max L 1 + max L0 1) ∧ Below w.heap.size w w' := by
  have HE : Hid (q / q' = mkRat (q.num * sg s1 q'.den) (q.den * q'.num.natAbs)) := Lib.hid (over_mk h'.1.2).symm
  have HN : Hid (q.den * q'.num.natAbs ≠ 0) := Lib.hid (Nat.mul_ne_zero q.den_nz (over_ne h0))
  have h1 := h.1
  have h1' := h'.1.1
  clear h0
  go_enter Tryz.func89, Tryz.ntmps89
  go_wp2_with fail
  obtain ⟨W0, hW, b0, b1, b2, hbW, hszW0⟩ := boxes3 w #[.bool s0, .slice A0 n0 c0, .slice D0 m0 e0] #[.bool s1, .slice A1 n1 c1, .slice D1 m1 e1] #[.bool false, .slice none 0 0, .slice none 0 0] 46 46 46
  rw [hW]
  clear hW
  replace h := h.below hbW
  replace h' := h'.below hbW
  replace h1 := h1.below hbW
  replace h1' := h1'.below hbW
  have H0 := hbW
  clear hbW
  have lcb0_1 := b0.lt
  have lcb1_1 := b1.lt
  have lcb2_1 := b2.lt
  go_cut [5] from 6 (fun u1_0 wx => ∃ g1_0 s6 A6 n6 c6, u1_0 = .pointer (some ⟨g1_0, 0, none⟩) ∧ NI wx s6 (.slice A6 n6 c6) (q.num * sg s1 q'.den) (L + max L0 1) ∧ Box wx g1_0 #[.bool s6, .slice A6 n6 c6] 35 ∧ W0.heap.size ≤ g1_0 ∧ Below W0.heap.size W0 wx)
  case first =>
    have hG := drawn_below W0
    refine wp_region_noPanic ?_
    refine wp_region_held_drew (S := (fun V => V.cell? ⟨w.heap.size, 0, none⟩ = some (.bool s0) ∧ V.cell? ⟨w.heap.size, 1, none⟩ = some (.slice A0 n0 c0) ∧ V.cell? ⟨w.heap.size, 2, none⟩ = some (.slice D0 m0 e0) ∧ V.cell? ⟨w.heap.size + 1, 0, none⟩ = some (.bool s1) ∧ V.cell? ⟨w.heap.size + 1, 1, none⟩ = some (.slice A1 n1 c1) ∧ V.cell? ⟨w.heap.size + 1, 2, none⟩ = some (.slice D1 m1 e1))) (by kernel_rfl) ((b0.below hG).and3 ((b1.below hG).all3)) (fun hHeld => ?_)
    generalize W0.drew = v1 at hG hHeld ⊢
    have sG := hG.size
    refine tk 0 ?_ rfl (by kernel_rfl) (by kernel_rfl) (by kernel_rfl) (fun _ _ _ h => h) (by rfl) ?_ (by assumption) ?_
    rotate_left
    · (intro w hSw; (try dsimp only at hSw); go_simp; (try with_reducible rfl))
    (try simp only [getElem_toArray, getElem_cons_zero, Act.put, setIfInBounds_toArray, set_cons_zero, set_cons_succ])
    refine tk 1 ?_ rfl (by kernel_rfl) (by kernel_rfl) (by kernel_rfl) (fun _ _ _ h => h) (by rfl) ?_ (by assumption) ?_
    rotate_left
    · (intro w hSw; (try dsimp only at hSw); go_simp; (try with_reducible rfl))
    (try simp only [getElem_toArray, getElem_cons_succ, getElem_cons_zero, Act.put, setIfInBounds_toArray, set_cons_zero, set_cons_succ])
    refine tk 2 ?_ rfl (by kernel_rfl) (by kernel_rfl) (by kernel_rfl) (fun _ _ _ h => h) (by rfl) ?_ (by assumption) ?_
    rotate_left
    · (intro w hSw; (try dsimp only at hSw); go_simp; (try with_reducible rfl))
    (try simp only [getElem_toArray, getElem_cons_succ, getElem_cons_zero, Act.put, setIfInBounds_toArray, set_cons_zero, set_cons_succ])
    refine tk 3 ?_ rfl (by kernel_rfl) (by kernel_rfl) (by kernel_rfl) (fun _ _ _ h => h) (by rfl) ?_ (by assumption) ?_
    rotate_left
    · (intro w hSw; (try dsimp only at hSw); go_simp; (try with_reducible rfl))
    (try simp only [getElem_toArray, getElem_cons_succ, getElem_cons_zero, Act.put, setIfInBounds_toArray, set_cons_zero, set_cons_succ])
    refine tk 4 ?_ rfl (by kernel_rfl) (by kernel_rfl) (by kernel_rfl) (fun _ _ _ h => h) (by rfl) ?_ (by assumption) ?_
    rotate_left
    · (intro w hSw; (try dsimp only at hSw); go_simp; (try with_reducible rfl))
    (try simp only [getElem_toArray, getElem_cons_succ, getElem_cons_zero, Act.put, setIfInBounds_toArray, set_cons_zero, set_cons_succ])
    refine tk 5 ?_ rfl (by kernel_rfl) (by kernel_rfl) (by kernel_rfl) (fun _ _ _ h => h) (by rfl) ?_ (by assumption) ?_
    rotate_left
    · (intro w hSw; (try dsimp only at hSw); go_simp; (try with_reducible rfl))
    (try simp only [getElem_toArray, getElem_cons_succ, getElem_cons_zero, Act.put, setIfInBounds_toArray, set_cons_zero, set_cons_succ])
    refine wpAnyH_ready (rs := [6, 9]) (by kernel_rfl) (by simp) (AllReadyH.cons (o := _) rfl (fun K hK => ?_) (AllReadyH.cons (o := _) rfl (fun K hK => ?_) AllReadyH.nil))
    · go_simp
      go_at_call 72
      refine (nden_v (h'.below hG)).mono ?_
      rintro e y1_1 ⟨A4, n4, c4, rfl, f4, hb9⟩
      have szy1_1 := hb9.size
      replace hG := hG.trans (hb9.mono sG)
      replace sG := hG.size
      clear hb9
      go_wp2_with fail
      refine hK.out _ _ ((b0.below hG).and3 ((b1.below hG).all3)) (fun hHeld => ?_)
      clear hK K
      (try simp only [getElem_toArray, getElem_cons_succ, getElem_cons_zero, Act.put, setIfInBounds_toArray, set_cons_zero, set_cons_succ])
      refine wpAnyH_ready (rs := [7, 9]) (by kernel_rfl) (by simp) (AllReadyH.cons (o := _) rfl (fun K hK => ?_) (AllReadyH.cons (o := _) rfl (fun K hK => ?_) AllReadyH.nil))
      · go_simp
        go_at_call 63
        refine (nmake_v s1 f4 rfl).mono ?_
        rintro e y1_2 ⟨s5, rfl, f5, hb9⟩
        have szy1_2 := hb9.size
        replace f4 := f4.below hb9
        replace hG := hG.trans (hb9.mono sG)
        replace sG := hG.size
        clear hb9
        clear f4
        go_wp2_with fail
        refine hK.out _ _ ((b0.below hG).and3 ((b1.below hG).all3)) (fun hHeld => ?_)
        clear hK K
        (try simp only [getElem_toArray, getElem_cons_succ, getElem_cons_zero, Act.put, setIfInBounds_toArray, set_cons_zero, set_cons_succ])
        refine wpAnyH_ready (rs := [8, 9]) (by kernel_rfl) (by simp) (AllReadyH.cons (o := _) rfl (fun K hK => ?_) (AllReadyH.cons (o := _) rfl (fun K hK => ?_) AllReadyH.nil))
        · go_simp
          go_at_call 123
          refine (nmul_v (h1.below hG) f5 (by omega) (by omega)).mono ?_
          rintro e y1_3 ⟨s6, A6, n6, c6, rfl, f6, hb9⟩
          have szy1_3 := hb9.size
          replace f5 := f5.below hb9
          replace hG := hG.trans (hb9.mono sG)
          replace sG := hG.size
          clear hb9
          clear f5
          go_wp2_with fail
          refine hK.out _ _ ((b0.below hG).and3 ((b1.below hG).all3)) (fun hHeld => ?_)
          clear hK K
          (try simp only [getElem_toArray, getElem_cons_succ, getElem_cons_zero, Act.put, setIfInBounds_toArray, set_cons_zero, set_cons_succ])
          refine rd1 9 (by kernel_rfl) rfl (fun K hK => ?_)
          go_simp
          obtain ⟨y1_4, hV, b3, hb9, szy1_4⟩ := boxes1 y1_3 #[.bool false, .slice none 0 0] 35
          rw [hV]
          clear hV
          have gly1_4 : W0.heap.size ≤ y1_3.heap.size := sG
          replace f6 := f6.below hb9
          replace hG := hG.trans (hb9.mono sG)
          replace sG := hG.size
          clear hb9
          refine hK.out _ _ ((b0.below hG).and3 ((b1.below hG).all3)) (fun hHeld => ?_)
          clear hK K
          (try simp only [getElem_toArray, getElem_cons_succ, getElem_cons_zero, Act.put, setIfInBounds_toArray, set_cons_zero, set_cons_succ])
          have rb30 := b3.cell 0 _ rfl
          have qb30 := b3.frozen 0
          have rb31 := b3.cell 1 _ rfl
          have qb31 := b3.frozen 1
          refine rd1 10 (by kernel_rfl) rfl (fun K hK => ?_)
          go_simp
          clear rb30 qb30
          clear rb31 qb31
          have hg := only_store y1_4 (y1_3.heap.size) (.bool s6) (.slice A6 n6 c6)
          have hB := b3.stored (.bool s6) (.slice A6 n6 c6)
          generalize hX : ((y1_4.setCell ⟨y1_3.heap.size, 0, none⟩ (.bool s6)).setCell ⟨y1_3.heap.size, 1, none⟩ (.slice A6 n6 c6)) = Y1_5 at hg hB ⊢
          clear hX
          replace f6 := f6.kept b3 (by simp [notInt]) hg
          replace b3 := hB
          replace hG := below_only hG hg (by omega) sG
          replace sG := hG.size
          clear hg hB
          refine hK.out _ _ ((b0.below hG).and3 ((b1.below hG).all3)) (fun hHeld => ?_)
          clear hK K
          (try simp only [getElem_toArray, getElem_cons_succ, getElem_cons_zero, Act.put, setIfInBounds_toArray, set_cons_zero, set_cons_succ])
          refine wpAnyH_done (by kernel_rfl) ?_ _
          refine NoPanic.normal ?_
          go_wp2_with fail
          go_meet
          exact ⟨y1_3.heap.size, s6, A6, n6, c6, rfl, f6.more (by omega), b3, (by omega), hG⟩
        · go_simp
          obtain ⟨y1_6, hV, b3, hb9, szy1_6⟩ := boxes1 y1_2 #[.bool false, .slice none 0 0] 35
          rw [hV]
          clear hV
          have gly1_6 : W0.heap.size ≤ y1_2.heap.size := sG
          replace f5 := f5.below hb9
          replace hG := hG.trans (hb9.mono sG)
          replace sG := hG.size
          clear hb9
          refine hK.out _ _ ((b0.below hG).and3 ((b1.below hG).all3)) (fun hHeld => ?_)
          clear hK K
          (try simp only [getElem_toArray, getElem_cons_succ, getElem_cons_zero, Act.put, setIfInBounds_toArray, set_cons_zero, set_cons_succ])
          refine rd1 8 (by kernel_rfl) rfl (fun K hK => ?_)
          go_simp
          go_at_call 123
          refine (nmul_v (h1.below hG) f5 (by omega) (by omega)).mono ?_
          rintro e y1_7 ⟨s6, A6, n6, c6, rfl, f6, hb9⟩
          have szy1_7 := hb9.size
          replace f5 := f5.below hb9
          replace b3 := b3.below hb9
          replace hG := hG.trans (hb9.mono sG)
          replace sG := hG.size
          clear hb9
          clear f5
          go_wp2_with fail
          refine hK.out _ _ ((b0.below hG).and3 ((b1.below hG).all3)) (fun hHeld => ?_)
          clear hK K
          (try simp only [getElem_toArray, getElem_cons_succ, getElem_cons_zero, Act.put, setIfInBounds_toArray, set_cons_zero, set_cons_succ])
          have rb30 := b3.cell 0 _ rfl
          have qb30 := b3.frozen 0
          have rb31 := b3.cell 1 _ rfl
          have qb31 := b3.frozen 1
          refine rd1 10 (by kernel_rfl) rfl (fun K hK => ?_)
          go_simp
          clear rb30 qb30
          clear rb31 qb31
          have hg := only_store y1_7 (y1_2.heap.size) (.bool s6) (.slice A6 n6 c6)
          have hB := b3.stored (.bool s6) (.slice A6 n6 c6)
          generalize hX : ((y1_7.setCell ⟨y1_2.heap.size, 0, none⟩ (.bool s6)).setCell ⟨y1_2.heap.size, 1, none⟩ (.slice A6 n6 c6)) = Y1_8 at hg hB ⊢
          clear hX
          replace f6 := f6.kept b3 (by simp [notInt]) hg
          replace b3 := hB
          replace hG := below_only hG hg (by omega) sG
          replace sG := hG.size
          clear hg hB
          refine hK.out _ _ ((b0.below hG).and3 ((b1.below hG).all3)) (fun hHeld => ?_)
          clear hK K
          (try simp only [getElem_toArray, getElem_cons_succ, getElem_cons_zero, Act.put, setIfInBounds_toArray, set_cons_zero, set_cons_succ])
          refine wpAnyH_done (by kernel_rfl) ?_ _
          refine NoPanic.normal ?_
          go_wp2_with fail
          go_meet
          exact ⟨y1_2.heap.size, s6, A6, n6, c6, rfl, f6.more (by omega), b3, (by omega), hG⟩
      · go_simp
        obtain ⟨y1_9, hV, b3, hb9, szy1_9⟩ := boxes1 y1_1 #[.bool false, .slice none 0 0] 35
        rw [hV]
        clear hV
        have gly1_9 : W0.heap.size ≤ y1_1.heap.size := sG
        replace f4 := f4.below hb9
        replace hG := hG.trans (hb9.mono sG)
        replace sG := hG.size
        clear hb9
        refine hK.out _ _ ((b0.below hG).and3 ((b1.below hG).all3)) (fun hHeld => ?_)
        clear hK K
        (try simp only [getElem_toArray, getElem_cons_succ, getElem_cons_zero, Act.put, setIfInBounds_toArray, set_cons_zero, set_cons_succ])
        refine rd1 7 (by kernel_rfl) rfl (fun K hK => ?_)
        go_simp
        go_at_call 63
        refine (nmake_v s1 f4 rfl).mono ?_
        rintro e y1_10 ⟨s5, rfl, f5, hb9⟩
        have szy1_10 := hb9.size
        replace f4 := f4.below hb9
        replace b3 := b3.below hb9
        replace hG := hG.trans (hb9.mono sG)
        replace sG := hG.size
        clear hb9
        clear f4
        go_wp2_with fail
        refine hK.out _ _ ((b0.below hG).and3 ((b1.below hG).all3)) (fun hHeld => ?_)
        clear hK K
        (try simp only [getElem_toArray, getElem_cons_succ, getElem_cons_zero, Act.put, setIfInBounds_toArray, set_cons_zero, set_cons_succ])
        refine rd1 8 (by kernel_rfl) rfl (fun K hK => ?_)
        go_simp
        go_at_call 123
        refine (nmul_v (h1.below hG) f5 (by omega) (by omega)).mono ?_
        rintro e y1_11 ⟨s6, A6, n6, c6, rfl, f6, hb9⟩
        have szy1_11 := hb9.size
        replace f5 := f5.below hb9
        replace b3 := b3.below hb9
        replace hG := hG.trans (hb9.mono sG)
        replace sG := hG.size
        clear hb9
        clear f5
        go_wp2_with fail
        refine hK.out _ _ ((b0.below hG).and3 ((b1.below hG).all3)) (fun hHeld => ?_)
        clear hK K
        (try simp only [getElem_toArray, getElem_cons_succ, getElem_cons_zero, Act.put, setIfInBounds_toArray, set_cons_zero, set_cons_succ])
        have rb30 := b3.cell 0 _ rfl
        have qb30 := b3.frozen 0
        have rb31 := b3.cell 1 _ rfl
        have qb31 := b3.frozen 1
        refine rd1 10 (by kernel_rfl) rfl (fun K hK => ?_)
        go_simp
        clear rb30 qb30
        clear rb31 qb31
        have hg := only_store y1_11 (y1_1.heap.size) (.bool s6) (.slice A6 n6 c6)
        have hB := b3.stored (.bool s6) (.slice A6 n6 c6)
        generalize hX : ((y1_11.setCell ⟨y1_1.heap.size, 0, none⟩ (.bool s6)).setCell ⟨y1_1.heap.size, 1, none⟩ (.slice A6 n6 c6)) = Y1_12 at hg hB ⊢
        clear hX
        replace f6 := f6.kept b3 (by simp [notInt]) hg
        replace b3 := hB
        replace hG := below_only hG hg (by omega) sG
        replace sG := hG.size
        clear hg hB
        refine hK.out _ _ ((b0.below hG).and3 ((b1.below hG).all3)) (fun hHeld => ?_)
        clear hK K
        (try simp only [getElem_toArray, getElem_cons_succ, getElem_cons_zero, Act.put, setIfInBounds_toArray, set_cons_zero, set_cons_succ])
        refine wpAnyH_done (by kernel_rfl) ?_ _
        refine NoPanic.normal ?_
        go_wp2_with fail
        go_meet
        exact ⟨y1_1.heap.size, s6, A6, n6, c6, rfl, f6.more (by omega), b3, (by omega), hG⟩
    · go_simp
      obtain ⟨y1_13, hV, b3, hb9, szy1_13⟩ := boxes1 v1 #[.bool false, .slice none 0 0] 35
      rw [hV]
      clear hV
      have gly1_13 : W0.heap.size ≤ v1.heap.size := sG
      replace hG := hG.trans (hb9.mono sG)
      replace sG := hG.size
      clear hb9
      refine hK.out _ _ ((b0.below hG).and3 ((b1.below hG).all3)) (fun hHeld => ?_)
      clear hK K
      (try simp only [getElem_toArray, getElem_cons_succ, getElem_cons_zero, Act.put, setIfInBounds_toArray, set_cons_zero, set_cons_succ])
      refine rd1 6 (by kernel_rfl) rfl (fun K hK => ?_)
      go_simp
      go_at_call 72
      refine (nden_v (h'.below hG)).mono ?_
      rintro e y1_14 ⟨A4, n4, c4, rfl, f4, hb9⟩
      have szy1_14 := hb9.size
      replace b3 := b3.below hb9
      replace hG := hG.trans (hb9.mono sG)
      replace sG := hG.size
      clear hb9
      go_wp2_with fail
      refine hK.out _ _ ((b0.below hG).and3 ((b1.below hG).all3)) (fun hHeld => ?_)
      clear hK K
      (try simp only [getElem_toArray, getElem_cons_succ, getElem_cons_zero, Act.put, setIfInBounds_toArray, set_cons_zero, set_cons_succ])
      refine rd1 7 (by kernel_rfl) rfl (fun K hK => ?_)
      go_simp
      go_at_call 63
      refine (nmake_v s1 f4 rfl).mono ?_
      rintro e y1_15 ⟨s5, rfl, f5, hb9⟩
      have szy1_15 := hb9.size
      replace f4 := f4.below hb9
      replace b3 := b3.below hb9
      replace hG := hG.trans (hb9.mono sG)
      replace sG := hG.size
      clear hb9
      clear f4
      go_wp2_with fail
      refine hK.out _ _ ((b0.below hG).and3 ((b1.below hG).all3)) (fun hHeld => ?_)
      clear hK K
      (try simp only [getElem_toArray, getElem_cons_succ, getElem_cons_zero, Act.put, setIfInBounds_toArray, set_cons_zero, set_cons_succ])
      refine rd1 8 (by kernel_rfl) rfl (fun K hK => ?_)
      go_simp
      go_at_call 123
      refine (nmul_v (h1.below hG) f5 (by omega) (by omega)).mono ?_
      rintro e y1_16 ⟨s6, A6, n6, c6, rfl, f6, hb9⟩
      have szy1_16 := hb9.size
      replace f5 := f5.below hb9
      replace b3 := b3.below hb9
      replace hG := hG.trans (hb9.mono sG)
      replace sG := hG.size
      clear hb9
      clear f5
      go_wp2_with fail
      refine hK.out _ _ ((b0.below hG).and3 ((b1.below hG).all3)) (fun hHeld => ?_)
      clear hK K
      (try simp only [getElem_toArray, getElem_cons_succ, getElem_cons_zero, Act.put, setIfInBounds_toArray, set_cons_zero, set_cons_succ])
      have rb30 := b3.cell 0 _ rfl
      have qb30 := b3.frozen 0
      have rb31 := b3.cell 1 _ rfl
      have qb31 := b3.frozen 1
      refine rd1 10 (by kernel_rfl) rfl (fun K hK => ?_)
      go_simp
      clear rb30 qb30
      clear rb31 qb31
      have hg := only_store y1_16 (v1.heap.size) (.bool s6) (.slice A6 n6 c6)
      have hB := b3.stored (.bool s6) (.slice A6 n6 c6)
      generalize hX : ((y1_16.setCell ⟨v1.heap.size, 0, none⟩ (.bool s6)).setCell ⟨v1.heap.size, 1, none⟩ (.slice A6 n6 c6)) = Y1_17 at hg hB ⊢
      clear hX
      replace f6 := f6.kept b3 (by simp [notInt]) hg
      replace b3 := hB
      replace hG := below_only hG hg (by omega) sG
      replace sG := hG.size
      clear hg hB
      refine hK.out _ _ ((b0.below hG).and3 ((b1.below hG).all3)) (fun hHeld => ?_)
      clear hK K
      (try simp only [getElem_toArray, getElem_cons_succ, getElem_cons_zero, Act.put, setIfInBounds_toArray, set_cons_zero, set_cons_succ])
      refine wpAnyH_done (by kernel_rfl) ?_ _
      refine NoPanic.normal ?_
      go_wp2_with fail
      go_meet
      exact ⟨v1.heap.size, s6, A6, n6, c6, rfl, f6.more (by omega), b3, (by omega), hG⟩
  obtain ⟨g1_0, s6, A6, n6, c6, rfl, f6, b3, glg1_0, hG⟩ := hcut
  replace h := h.below hG
  replace h' := h'.below hG
  replace h1 := h1.below hG
  replace h1' := h1'.below hG
  replace b0 := b0.below hG
  replace b1 := b1.below hG
  replace b2 := b2.below hG
  replace H0 := H0.trans (hG.mono H0.size)
  clear hG
  clear h'
  clear h1
  obtain ⟨cb00, cb01, cb02⟩ := b0.cells3
  obtain ⟨cb10, cb11, cb12⟩ := b1.cells3
  obtain ⟨cb30, cb31⟩ := b3.cells2
  go_wp2_with fail
  clear cb00 cb01 cb02 cb10 cb11 cb12 cb30 cb31
  have hD := drawn_below wc
  replace h := h.below hD
  replace h1' := h1'.below hD
  replace f6 := f6.below hD
  replace b0 := b0.below hD
  replace b1 := b1.below hD
  replace b2 := b2.below hD
  replace b3 := b3.below hD
  replace H0 := H0.trans (hD.mono H0.size)
  clear hD
  have K0 := (And.intro (b0.cell 0 _ rfl) (And.intro (b0.cell 1 _ rfl) (And.intro (b0.cell 2 _ rfl) (And.intro (b1.cell 0 _ rfl) (And.intro (b1.cell 1 _ rfl) (And.intro (b1.cell 2 _ rfl) (And.intro (b3.cell 0 _ rfl) (b3.cell 1 _ rfl))))))))
  go_region_held3 (fun V => V.cell? ⟨w.heap.size, 0, none⟩ = some (.bool s0) ∧ V.cell? ⟨w.heap.size, 1, none⟩ = some (.slice A0 n0 c0) ∧ V.cell? ⟨w.heap.size, 2, none⟩ = some (.slice D0 m0 e0) ∧ V.cell? ⟨w.heap.size + 1, 0, none⟩ = some (.bool s1) ∧ V.cell? ⟨w.heap.size + 1, 1, none⟩ = some (.slice A1 n1 c1) ∧ V.cell? ⟨w.heap.size + 1, 2, none⟩ = some (.slice D1 m1 e1) ∧ V.cell? ⟨g1_0, 0, none⟩ = some (.bool s6) ∧ V.cell? ⟨g1_0, 1, none⟩ = some (.slice A6 n6 c6)) (first | exact KS | exact K3 | exact K2 | exact K1 | exact K0 | go_keep)
    (first
      | (go_at_call 106; have hK9 := K2; clear hK9; with_reducible refine (nfrac_v (L := max L 1 + max L0 1) (f6.more (by omega)) (NV.more f8 (by omega)) HN.out (by omega)).mono ?_; rintro e v5 ⟨s9, A9, n9, c9, D9, m9, e9, rfl, fq, hb⟩; have f6 := f6.below hb; have f8 := f8.below hb; have b0 := b0.below hb; have b1 := b1.below hb; have b2 := b2.below hb; have b3 := b3.below hb; have H0 := H0.trans (hb.mono H0.size); clear f6; clear f8; have K3 := (And.intro (b0.cell 0 _ rfl) (And.intro (b0.cell 1 _ rfl) (And.intro (b0.cell 2 _ rfl) (And.intro (b1.cell 0 _ rfl) (And.intro (b1.cell 1 _ rfl) (And.intro (b1.cell 2 _ rfl) (And.intro (b3.cell 0 _ rfl) (b3.cell 1 _ rfl)))))))); have r0 := b2.cell 0 _ rfl; have f_0 := b2.frozen 0; have r1 := b2.cell 1 _ rfl; have f_1 := b2.frozen 1; have r2 := b2.cell 2 _ rfl; have f_2 := b2.frozen 2; have hg := only_store3 v5 (w.heap.size + 1 + 1) (.bool s9) (.slice A9 n9 c9) (.slice D9 m9 e9); have KS := (And.intro ((b0.other hg (by omega)).cell 0 _ rfl) (And.intro ((b0.other hg (by omega)).cell 1 _ rfl) (And.intro ((b0.other hg (by omega)).cell 2 _ rfl) (And.intro ((b1.other hg (by omega)).cell 0 _ rfl) (And.intro ((b1.other hg (by omega)).cell 1 _ rfl) (And.intro ((b1.other hg (by omega)).cell 2 _ rfl) (And.intro ((b3.other hg (by omega)).cell 0 _ rfl) ((b3.other hg (by omega)).cell 1 _ rfl)))))))); clear hb)
      | (go_at_call 71; have hK9 := K1; clear hK9; with_reducible refine (nprod_v f7 h1' (by omega) (by omega)).mono ?_; rintro e v4 ⟨A8, n8, c8, rfl, f8, hb⟩; have h1' := h1'.below hb; have f6 := f6.below hb; have f7 := f7.below hb; have b0 := b0.below hb; have b1 := b1.below hb; have b2 := b2.below hb; have b3 := b3.below hb; have H0 := H0.trans (hb.mono H0.size); clear f7; clear h1'; have K2 := (And.intro (b0.cell 0 _ rfl) (And.intro (b0.cell 1 _ rfl) (And.intro (b0.cell 2 _ rfl) (And.intro (b1.cell 0 _ rfl) (And.intro (b1.cell 1 _ rfl) (And.intro (b1.cell 2 _ rfl) (And.intro (b3.cell 0 _ rfl) (b3.cell 1 _ rfl)))))))); clear hb)
      | (go_at_call 72; have hK9 := K0; clear hK9; with_reducible refine (nden_v h).mono ?_; rintro e v3 ⟨A7, n7, c7, rfl, f7, hb⟩; have h := h.below hb; have h1' := h1'.below hb; have f6 := f6.below hb; have b0 := b0.below hb; have b1 := b1.below hb; have b2 := b2.below hb; have b3 := b3.below hb; have H0 := H0.trans (hb.mono H0.size); clear h; have K1 := (And.intro (b0.cell 0 _ rfl) (And.intro (b0.cell 1 _ rfl) (And.intro (b0.cell 2 _ rfl) (And.intro (b1.cell 0 _ rfl) (And.intro (b1.cell 1 _ rfl) (And.intro (b1.cell 2 _ rfl) (And.intro (b3.cell 0 _ rfl) (b3.cell 1 _ rfl)))))))); clear hb)
    )
  have hB := b2.stored3 (.bool s9) (.slice A9 n9 c9) (.slice D9 m9 e9)
  go_wp2_with fail
  generalize hX : (((v5.setCell ⟨w.heap.size + 1 + 1, 0, none⟩ (.bool s9)).setCell ⟨w.heap.size + 1 + 1, 1, none⟩ (.slice A9 n9 c9)).setCell ⟨w.heap.size + 1 + 1, 2, none⟩ (.slice D9 m9 e9)) = X6 at hg hB ⊢
  clear hX r0 f_0 r1 f_1 r2 f_2
  replace fq := fq.kept b2 (by simp [notInt]) hg
  replace b0 := b0.other hg (by omega)
  replace b1 := b1.other hg (by omega)
  replace b3 := b3.other hg (by omega)
  replace b2 := hB
  replace H0 := below_only H0 hg (by omega) H0.size
  clear hg hB
  refine bodyPost_ret (ret_numq rfl rfl b2) rfl ?_
  exact ⟨s9, A9, n9, c9, D9, m9, e9, rfl, by rw [HE.out]; exact fq, H0⟩
end
end Go.Proofs.YtancgkmkbgkncaaGreat
namespace Go.Proofs.YtancgkmkbgkncaaGreat
open List (getElem_toArray getElem_cons_succ getElem_cons_zero setIfInBounds_toArray set_cons_zero set_cons_succ)
open Go.RowKit

section
variable {A0 A1 A2 A3 A4 A5 A6 A7 A8 A9 A10 A11 A12 A13 D0 D1 D2 D3 D4 D5 D6 D7 D8 D9 D10 D11 D12 D13 : Option Addr} {n0 n1 n2 n3 n4 n5 n6 n7 n8 n9 n10 n11 n12 n13 c0 c1 c2 c3 c4 c5 c6 c7 c8 c9 c10 c11 c12 c13 m0 m1 m2 m3 m4 m5 m6 m7 m8 m9 m10 m11 m12 m13 e0 e1 e2 e3 e4 e5 e6 e7 e8 e9 e10 e11 e12 e13 : Nat} {s0 s1 s2 s3 s4 s5 s6 s7 s8 s9 s10 s11 s12 s13 : Bool} {q0 q1 q2 q3 q4 q5 q6 q7 : Rat} {z0 z1 z2 z3 z4 z5 z6 z7 z8 z9 z10 z11 : Int} {L L0 L1 x y : Nat} {k : Int} {b : Bool} {w : World}
set_option maxRecDepth 100000 in
set_option maxHeartbeats 4000000 in
theorem gq_v (h0 : NI w s0 (.slice A0 n0 c0) z0 L) :
    Calls Tryz.prog 84 #[.agg #[.bool s0, .slice A0 n0 c0]] w fun e w' => ∃ s1 A1 n1 c1 D1 m1 e1, e = .returned (.agg #[.bool s1, .slice A1 n1 c1, .slice D1 m1 e1]) ∧ PQ w' s1 (.slice A1 n1 c1) (.slice D1 m1 e1) ((z0 : Rat)) (L) ∧ Below w.heap.size w w' := by
  obtain ⟨W0, hW, b0, hbW, hszW0⟩ := boxes1 w #[.bool s0, .slice A0 n0 c0] 35
  skip
  skip
  replace h0 := h0.below hbW
  have H0 := hbW
  clear hbW
  have hWa := hW
  clear hW
  have lb0_1 := b0.lt
  obtain ⟨W1, hW, b9, hbW, hszW1⟩ := boxes1 W0 #[.bool false, .slice none 0 0, .slice none 0 0] 46
  skip
  skip
  replace h0 := h0.below hbW
  replace b0 := b0.below hbW
  replace H0 := H0.trans (hbW.mono H0.size)
  clear hbW
  rw [hszW0] at b9
  obtain ⟨cb00, cb01⟩ := b0.cells2
  obtain ⟨cb90, yb90, cb91, yb91, cb92, yb92⟩ := b9.cf3
  go_enter Tryz.func84, Tryz.ntmps84
  go_wp2_with fail
  clear cb00 cb01 cb90 yb90 cb91 yb91 cb92 yb92
  clear hW hWa
  obtain ⟨cb90, yb90, cb91, yb91, cb92, yb92⟩ := b9.cf3
  clear cb90 yb90 cb91 yb91 cb92 yb92
  have hg := only_store3 W1 (w.heap.size + 1) (.bool s0) (.slice A0 n0 c0) (.slice none 0 0)
  have hB := b9.stored3 (.bool s0) (.slice A0 n0 c0) (.slice none 0 0)
  generalize hX : (((W1.setCell ⟨w.heap.size + 1, 0, none⟩ (.bool s0)).setCell ⟨w.heap.size + 1, 1, none⟩ (.slice A0 n0 c0)).setCell ⟨w.heap.size + 1, 2, none⟩ (.slice none 0 0)) = X2 at hg hB ⊢
  clear hX
  replace h0 := h0.kept b9 (by simp [notInt]) hg
  replace b0 := b0.other hg (by omega)
  replace b9 := hB
  replace H0 := below_only H0 hg (by omega) H0.size
  clear hg hB
  refine bodyPost_ret (ret_numq rfl rfl b9) rfl ?_
  exact ⟨_, _, _, _, _, _, _, rfl, PQ.int h0, H0⟩
set_option maxRecDepth 100000 in
set_option maxHeartbeats 4000000 in
theorem grev_v (h0 : NI w s0 (.slice A0 n0 c0) z0 L) (h1 : NI w s1 (.slice A1 n1 c1) z1 L) (h2 : NI w s2 (.slice A2 n2 c2) z2 L) :
    Calls Tryz.prog 40 #[.agg #[.bool s0, .slice A0 n0 c0, .bool s1, .slice A1 n1 c1, .bool s2, .slice A2 n2 c2]] w fun e w' => ∃ s3 A3 n3 c3 s4 A4 n4 c4 s5 A5 n5 c5, e = .returned (.agg #[.bool s3, .slice A3 n3 c3, .bool s4, .slice A4 n4 c4, .bool s5, .slice A5 n5 c5]) ∧ NI w' s3 (.slice A3 n3 c3) (-z0) (L) ∧ NI w' s4 (.slice A4 n4 c4) (-z1) (L) ∧ NI w' s5 (.slice A5 n5 c5) (-z2) (L) ∧ Below w.heap.size w w' := by
  go_enter Tryz.func40, Tryz.ntmps40
  go_wp2_with fail
  obtain ⟨W0, hW, b0, b9, hbW, hszW0⟩ := boxes2 w #[.bool s0, .slice A0 n0 c0, .bool s1, .slice A1 n1 c1, .bool s2, .slice A2 n2 c2] #[.bool false, .slice none 0 0, .bool false, .slice none 0 0, .bool false, .slice none 0 0] 37 37
  rw [hW]
  clear hW
  replace h0 := h0.below hbW
  replace h1 := h1.below hbW
  replace h2 := h2.below hbW
  have H0 := hbW
  clear hbW
  have hD := drawn_below W0
  replace h0 := h0.below hD
  replace h1 := h1.below hD
  replace h2 := h2.below hD
  replace b0 := b0.below hD
  replace b9 := b9.below hD
  replace H0 := H0.trans (hD.mono H0.size)
  clear hD
  refine wp_region_noPanic ?_
  refine wp_region_held_drew (S := (fun V => V.cell? ⟨w.heap.size, 0, none⟩ = some (.bool s0) ∧ V.cell? ⟨w.heap.size, 1, none⟩ = some (.slice A0 n0 c0) ∧ V.cell? ⟨w.heap.size, 2, none⟩ = some (.bool s1) ∧ V.cell? ⟨w.heap.size, 3, none⟩ = some (.slice A1 n1 c1) ∧ V.cell? ⟨w.heap.size, 4, none⟩ = some (.bool s2) ∧ V.cell? ⟨w.heap.size, 5, none⟩ = some (.slice A2 n2 c2))) (by kernel_rfl) (b0.all6) (fun hHeld => ?_)
  generalize W0.drew = v1 at H0 hHeld h0 h1 h2 b0 b9 ⊢
  refine tk 0 ?_ rfl (by kernel_rfl) (by kernel_rfl) (by kernel_rfl) (fun _ _ _ h => h) (by rfl) ?_ (by assumption) ?_
  rotate_left
  · (intro w hSw; (try dsimp only at hSw); go_simp; (try with_reducible rfl))
  (try simp only [getElem_toArray, getElem_cons_zero, Act.put, setIfInBounds_toArray, set_cons_zero, set_cons_succ])
  refine tk 3 ?_ rfl (by kernel_rfl) (by kernel_rfl) (by kernel_rfl) (fun _ _ _ h => h) (by rfl) ?_ (by assumption) ?_
  rotate_left
  · (intro w hSw; (try dsimp only at hSw); go_simp; (try with_reducible rfl))
  (try simp only [getElem_toArray, getElem_cons_succ, getElem_cons_zero, Act.put, setIfInBounds_toArray, set_cons_zero, set_cons_succ])
  refine tk 6 ?_ rfl (by kernel_rfl) (by kernel_rfl) (by kernel_rfl) (fun _ _ _ h => h) (by rfl) ?_ (by assumption) ?_
  rotate_left
  · (intro w hSw; (try dsimp only at hSw); go_simp; (try with_reducible rfl))
  (try simp only [getElem_toArray, getElem_cons_succ, getElem_cons_zero, Act.put, setIfInBounds_toArray, set_cons_zero, set_cons_succ])
  refine tk 1 ?_ rfl (by kernel_rfl) (by kernel_rfl) (by kernel_rfl) (fun _ _ _ h => h) (by rfl) ?_ (by assumption) ?_
  rotate_left
  · (intro w hSw; (try dsimp only at hSw); go_simp; (try with_reducible rfl))
  (try simp only [getElem_toArray, getElem_cons_succ, getElem_cons_zero, Act.put, setIfInBounds_toArray, set_cons_zero, set_cons_succ])
  refine tk 4 ?_ rfl (by kernel_rfl) (by kernel_rfl) (by kernel_rfl) (fun _ _ _ h => h) (by rfl) ?_ (by assumption) ?_
  rotate_left
  · (intro w hSw; (try dsimp only at hSw); go_simp; (try with_reducible rfl))
  (try simp only [getElem_toArray, getElem_cons_succ, getElem_cons_zero, Act.put, setIfInBounds_toArray, set_cons_zero, set_cons_succ])
  refine tk 7 ?_ rfl (by kernel_rfl) (by kernel_rfl) (by kernel_rfl) (fun _ _ _ h => h) (by rfl) ?_ (by assumption) ?_
  rotate_left
  · (intro w hSw; (try dsimp only at hSw); go_simp; (try with_reducible rfl))
  (try simp only [getElem_toArray, getElem_cons_succ, getElem_cons_zero, Act.put, setIfInBounds_toArray, set_cons_zero, set_cons_succ])
  refine rd1 2 (by kernel_rfl) rfl (fun K hK => ?_)
  go_simp
  go_at_call 97
  refine (nminus_v h0).mono ?_
  rintro e w2 ⟨s3, rfl, g3, hb⟩
  replace h0 := h0.below hb
  replace h1 := h1.below hb
  replace h2 := h2.below hb
  replace b0 := b0.below hb
  replace b9 := b9.below hb
  replace H0 := H0.trans (hb.mono H0.size)
  clear hb
  go_wp2_with fail
  refine hK.out _ _ (b0.all6) (fun hHeld => ?_)
  clear hK K
  (try simp only [getElem_toArray, getElem_cons_succ, getElem_cons_zero, Act.put, setIfInBounds_toArray, set_cons_zero, set_cons_succ])
  refine rd1 5 (by kernel_rfl) rfl (fun K hK => ?_)
  go_simp
  go_at_call 97
  refine (nminus_v h1).mono ?_
  rintro e w3 ⟨s4, rfl, g4, hb⟩
  replace h0 := h0.below hb
  replace h1 := h1.below hb
  replace h2 := h2.below hb
  replace g3 := g3.below hb
  replace b0 := b0.below hb
  replace b9 := b9.below hb
  replace H0 := H0.trans (hb.mono H0.size)
  clear hb
  go_wp2_with fail
  refine hK.out _ _ (b0.all6) (fun hHeld => ?_)
  clear hK K
  (try simp only [getElem_toArray, getElem_cons_succ, getElem_cons_zero, Act.put, setIfInBounds_toArray, set_cons_zero, set_cons_succ])
  refine rd1 8 (by kernel_rfl) rfl (fun K hK => ?_)
  go_simp
  go_at_call 97
  refine (nminus_v h2).mono ?_
  rintro e w4 ⟨s5, rfl, g5, hb⟩
  replace h0 := h0.below hb
  replace h1 := h1.below hb
  replace h2 := h2.below hb
  replace g3 := g3.below hb
  replace g4 := g4.below hb
  replace b0 := b0.below hb
  replace b9 := b9.below hb
  replace H0 := H0.trans (hb.mono H0.size)
  clear hb
  go_wp2_with fail
  refine hK.out _ _ (b0.all6) (fun hHeld => ?_)
  clear hK K
  (try simp only [getElem_toArray, getElem_cons_succ, getElem_cons_zero, Act.put, setIfInBounds_toArray, set_cons_zero, set_cons_succ])
  refine tk 9 ?_ rfl (by kernel_rfl) (by kernel_rfl) (by kernel_rfl) (fun _ _ _ h => h) (by rfl) ?_ (by assumption) ?_
  rotate_left
  · (intro w hSw; (try dsimp only at hSw); go_simp; (try with_reducible rfl))
  (try simp only [getElem_toArray, getElem_cons_succ, getElem_cons_zero, Act.put, setIfInBounds_toArray, set_cons_zero, set_cons_succ])
  obtain ⟨cb90, yb90, cb91, yb91, cb92, yb92, cb93, yb93, cb94, yb94, cb95, yb95⟩ := b9.cf6
  refine rd1 10 (by kernel_rfl) rfl (fun K hK => ?_)
  go_simp
  clear cb90 yb90 cb91 yb91 cb92 yb92 cb93 yb93 cb94 yb94 cb95 yb95
  have hg := only_store6 w4 (w.heap.size + 1) (.bool s3) (.slice A0 n0 c0) (.bool s4) (.slice A1 n1 c1) (.bool s5) (.slice A2 n2 c2)
  have hB := b9.stored6 (.bool s3) (.slice A0 n0 c0) (.bool s4) (.slice A1 n1 c1) (.bool s5) (.slice A2 n2 c2)
  generalize hX : ((((((w4.setCell ⟨w.heap.size + 1, 0, none⟩ (.bool s3)).setCell ⟨w.heap.size + 1, 1, none⟩ (.slice A0 n0 c0)).setCell ⟨w.heap.size + 1, 2, none⟩ (.bool s4)).setCell ⟨w.heap.size + 1, 3, none⟩ (.slice A1 n1 c1)).setCell ⟨w.heap.size + 1, 4, none⟩ (.bool s5)).setCell ⟨w.heap.size + 1, 5, none⟩ (.slice A2 n2 c2)) = X5 at hg hB ⊢
  clear hX
  replace h0 := h0.kept b9 (by simp [notInt]) hg
  replace h1 := h1.kept b9 (by simp [notInt]) hg
  replace h2 := h2.kept b9 (by simp [notInt]) hg
  replace g3 := g3.kept b9 (by simp [notInt]) hg
  replace g4 := g4.kept b9 (by simp [notInt]) hg
  replace g5 := g5.kept b9 (by simp [notInt]) hg
  replace b0 := b0.other hg (by omega)
  replace b9 := hB
  replace H0 := below_only H0 hg (by omega) H0.size
  clear hg hB
  refine hK.out _ _ (b0.all6) (fun hHeld => ?_)
  clear hK K
  (try simp only [getElem_toArray, getElem_cons_succ, getElem_cons_zero, Act.put, setIfInBounds_toArray, set_cons_zero, set_cons_succ])
  refine wpAnyH_done (by kernel_rfl) ?_ _
  refine NoPanic.normal ?_
  go_wp2_with fail
  refine bodyPost_ret (ret_geol rfl rfl b9) rfl ?_
  exact ⟨_, _, _, _, _, _, _, _, _, _, _, _, rfl, g3, g4, g5, H0⟩
set_option maxRecDepth 100000 in
set_option maxHeartbeats 4000000 in
theorem lsamep_t (h : NQ w s0 (.slice A0 n0 c0) (.slice D0 m0 e0) q0 L) (h' : NQ w s1 (.slice A1 n1 c1) (.slice D1 m1 e1) q1 L) (k1 : PQ w s2 (.slice A2 n2 c2) (.slice D2 m2 e2) q2 L0) (k1' : PQ w s3 (.slice A3 n3 c3) (.slice D3 m3 e3) q3 L0) (hL0 : L0 ≤ 100000) (he : q0 = q2) (he' : q1 = q3) :
    Calls Tryz.prog 30 #[.agg #[.bool s0, .slice A0 n0 c0, .slice D0 m0 e0, .bool s1, .slice A1 n1 c1, .slice D1 m1 e1], .agg #[.bool s2, .slice A2 n2 c2, .slice D2 m2 e2, .bool s3, .slice A3 n3 c3, .slice D3 m3 e3]] w fun e w' => e = .returned (.bool true) ∧ Below w.heap.size w w' := by
  have HE := Lib.hid he
  have HF := Lib.hid he'
  clear he he'
  go_enter Tryz.func30, Tryz.ntmps30
  go_wp2_with fail
  obtain ⟨W0, hW, b0, b1, hbW, hszW0⟩ := boxes2 w #[.bool s0, .slice A0 n0 c0, .slice D0 m0 e0, .bool s1, .slice A1 n1 c1, .slice D1 m1 e1] #[.bool s2, .slice A2 n2 c2, .slice D2 m2 e2, .bool s3, .slice A3 n3 c3, .slice D3 m3 e3] 54 48
  rw [hW]
  clear hW
  replace h := h.below hbW
  replace h' := h'.below hbW
  replace k1 := k1.below hbW
  replace k1' := k1'.below hbW
  have H0 := hbW
  clear hbW
  have hD := drawn_below W0
  replace h := h.below hD
  replace h' := h'.below hD
  replace k1 := k1.below hD
  replace k1' := k1'.below hD
  replace b0 := b0.below hD
  replace b1 := b1.below hD
  replace H0 := H0.trans (hD.mono H0.size)
  clear hD
  refine wp_region_noPanic ?_
  refine wp_region_held_drew (S := (fun V => V.cell? ⟨w.heap.size, 0, none⟩ = some (.bool s0) ∧ V.cell? ⟨w.heap.size, 1, none⟩ = some (.slice A0 n0 c0) ∧ V.cell? ⟨w.heap.size, 2, none⟩ = some (.slice D0 m0 e0) ∧ V.cell? ⟨w.heap.size, 3, none⟩ = some (.bool s1) ∧ V.cell? ⟨w.heap.size, 4, none⟩ = some (.slice A1 n1 c1) ∧ V.cell? ⟨w.heap.size, 5, none⟩ = some (.slice D1 m1 e1) ∧ V.cell? ⟨w.heap.size + 1, 0, none⟩ = some (.bool s2) ∧ V.cell? ⟨w.heap.size + 1, 1, none⟩ = some (.slice A2 n2 c2) ∧ V.cell? ⟨w.heap.size + 1, 2, none⟩ = some (.slice D2 m2 e2) ∧ V.cell? ⟨w.heap.size + 1, 3, none⟩ = some (.bool s3) ∧ V.cell? ⟨w.heap.size + 1, 4, none⟩ = some (.slice A3 n3 c3) ∧ V.cell? ⟨w.heap.size + 1, 5, none⟩ = some (.slice D3 m3 e3))) (by kernel_rfl) (b0.and6 (b1.all6)) (fun hHeld => ?_)
  generalize W0.drew = v1 at H0 hHeld h h' k1 k1' b0 b1 ⊢
  refine tk 0 ?_ rfl (by kernel_rfl) (by kernel_rfl) (by kernel_rfl) (fun _ _ _ h => h) (by rfl) ?_ (by assumption) ?_
  rotate_left
  · (intro w hSw; (try dsimp only at hSw); go_simp; (try with_reducible rfl))
  (try simp only [getElem_toArray, getElem_cons_zero, Act.put, setIfInBounds_toArray, set_cons_zero, set_cons_succ])
  refine tk 1 ?_ rfl (by kernel_rfl) (by kernel_rfl) (by kernel_rfl) (fun _ _ _ h => h) (by rfl) ?_ (by assumption) ?_
  rotate_left
  · (intro w hSw; (try dsimp only at hSw); go_simp; (try with_reducible rfl))
  (try simp only [getElem_toArray, getElem_cons_succ, getElem_cons_zero, Act.put, setIfInBounds_toArray, set_cons_zero, set_cons_succ])
  refine rd1 2 (by kernel_rfl) rfl (fun K hK => ?_)
  go_simp
  go_at_call 19
  refine (gtop_v k1 k1' hL0).mono ?_
  rintro e w2 ⟨s4, A4, n4, c4, D4, m4, e4, s5, A5, n5, c5, D5, m5, e5, rfl, g4, g5, hb⟩
  replace h := h.below hb
  replace h' := h'.below hb
  replace k1 := k1.below hb
  replace k1' := k1'.below hb
  replace b0 := b0.below hb
  replace b1 := b1.below hb
  replace H0 := H0.trans (hb.mono H0.size)
  clear hb
  clear k1
  clear k1'
  go_wp2_with fail
  refine hK.out _ _ (b0.and6 (b1.all6)) (fun hHeld => ?_)
  clear hK K
  (try simp only [getElem_toArray, getElem_cons_succ, getElem_cons_zero, Act.put, setIfInBounds_toArray, set_cons_zero, set_cons_succ])
  refine rd1 3 (by kernel_rfl) rfl (fun K hK => ?_)
  go_simp
  go_at_call 43
  refine (samep_t h h' g4 g5 HE.out HF.out).mono ?_
  rintro e w3 ⟨rfl, hb⟩
  replace h := h.below hb
  replace h' := h'.below hb
  replace g4 := g4.below hb
  replace g5 := g5.below hb
  replace b0 := b0.below hb
  replace b1 := b1.below hb
  replace H0 := H0.trans (hb.mono H0.size)
  clear hb
  go_wp2_with fail
  refine hK.out _ _ (b0.and6 (b1.all6)) (fun hHeld => ?_)
  clear hK K
  (try simp only [getElem_toArray, getElem_cons_succ, getElem_cons_zero, Act.put, setIfInBounds_toArray, set_cons_zero, set_cons_succ])
  refine tk 4 ?_ rfl (by kernel_rfl) (by kernel_rfl) (by kernel_rfl) (fun _ _ _ h => h) (by rfl) ?_ (by assumption) ?_
  rotate_left
  · (intro w hSw; (try dsimp only at hSw); go_simp; (try with_reducible rfl))
  (try simp only [getElem_toArray, getElem_cons_succ, getElem_cons_zero, Act.put, setIfInBounds_toArray, set_cons_zero, set_cons_succ])
  refine wpAnyH_done (by kernel_rfl) ?_ _
  refine NoPanic.normal ?_
  go_wp2_with fail
  go_returns
  exact ⟨rfl, H0⟩
set_option maxRecDepth 100000 in
set_option maxHeartbeats 4000000 in
theorem gdir_v (h0 : NI w s0 (.slice A0 n0 c0) z0 L) (h1 : NI w s1 (.slice A1 n1 c1) z1 L) :
    Calls Tryz.prog 32 #[.agg #[.bool s0, .slice A0 n0 c0, .bool s1, .slice A1 n1 c1, .bool s2, .slice A2 n2 c2]] w fun e w' => ∃ s12 A12 n12 c12 D12 m12 e12 s13 A13 n13 c13 D13 m13 e13, e = .returned (.agg #[.bool s12, .slice A12 n12 c12, .slice D12 m12 e12, .bool s13, .slice A13 n13 c13, .slice D13 m13 e13]) ∧ PQ w' s12 (.slice A12 n12 c12) (.slice D12 m12 e12) ((z1 : Rat)) (L) ∧ PQ w' s13 (.slice A13 n13 c13) (.slice D13 m13 e13) (-(z0 : Rat)) (L) ∧ Below w.heap.size w w' := by
  go_enter Tryz.func32, Tryz.ntmps32
  go_wp2_with fail
  obtain ⟨W0, hW, b0, b9, hbW, hszW0⟩ := boxes2 w #[.bool s0, .slice A0 n0 c0, .bool s1, .slice A1 n1 c1, .bool s2, .slice A2 n2 c2] #[.bool false, .slice none 0 0, .slice none 0 0, .bool false, .slice none 0 0, .slice none 0 0] 37 48
  rw [hW]
  clear hW
  replace h0 := h0.below hbW
  replace h1 := h1.below hbW
  have H0 := hbW
  clear hbW
  have hD := drawn_below W0
  replace h0 := h0.below hD
  replace h1 := h1.below hD
  replace b0 := b0.below hD
  replace b9 := b9.below hD
  replace H0 := H0.trans (hD.mono H0.size)
  clear hD
  refine wp_region_noPanic ?_
  refine wp_region_held_drew (S := (fun V => V.cell? ⟨w.heap.size, 0, none⟩ = some (.bool s0) ∧ V.cell? ⟨w.heap.size, 1, none⟩ = some (.slice A0 n0 c0) ∧ V.cell? ⟨w.heap.size, 2, none⟩ = some (.bool s1) ∧ V.cell? ⟨w.heap.size, 3, none⟩ = some (.slice A1 n1 c1) ∧ V.cell? ⟨w.heap.size, 4, none⟩ = some (.bool s2) ∧ V.cell? ⟨w.heap.size, 5, none⟩ = some (.slice A2 n2 c2))) (by kernel_rfl) (b0.all6) (fun hHeld => ?_)
  generalize W0.drew = v1 at H0 hHeld h0 h1 b0 b9 ⊢
  refine tk 0 ?_ rfl (by kernel_rfl) (by kernel_rfl) (by kernel_rfl) (fun _ _ _ h => h) (by rfl) ?_ (by assumption) ?_
  rotate_left
  · (intro w hSw; (try dsimp only at hSw); go_simp; (try with_reducible rfl))
  (try simp only [getElem_toArray, getElem_cons_zero, Act.put, setIfInBounds_toArray, set_cons_zero, set_cons_succ])
  refine tk 3 ?_ rfl (by kernel_rfl) (by kernel_rfl) (by kernel_rfl) (fun _ _ _ h => h) (by rfl) ?_ (by assumption) ?_
  rotate_left
  · (intro w hSw; (try dsimp only at hSw); go_simp; (try with_reducible rfl))
  (try simp only [getElem_toArray, getElem_cons_succ, getElem_cons_zero, Act.put, setIfInBounds_toArray, set_cons_zero, set_cons_succ])
  refine tk 1 ?_ rfl (by kernel_rfl) (by kernel_rfl) (by kernel_rfl) (fun _ _ _ h => h) (by rfl) ?_ (by assumption) ?_
  rotate_left
  · (intro w hSw; (try dsimp only at hSw); go_simp; (try with_reducible rfl))
  (try simp only [getElem_toArray, getElem_cons_succ, getElem_cons_zero, Act.put, setIfInBounds_toArray, set_cons_zero, set_cons_succ])
  refine tk 4 ?_ rfl (by kernel_rfl) (by kernel_rfl) (by kernel_rfl) (fun _ _ _ h => h) (by rfl) ?_ (by assumption) ?_
  rotate_left
  · (intro w hSw; (try dsimp only at hSw); go_simp; (try with_reducible rfl))
  (try simp only [getElem_toArray, getElem_cons_succ, getElem_cons_zero, Act.put, setIfInBounds_toArray, set_cons_zero, set_cons_succ])
  refine rd1 2 (by kernel_rfl) rfl (fun K hK => ?_)
  go_simp
  go_at_call 84
  refine (gq_v h1).mono ?_
  rintro e w2 ⟨s3, A3, n3, c3, D3, m3, e3, rfl, g3, hb⟩
  replace h0 := h0.below hb
  replace h1 := h1.below hb
  replace b0 := b0.below hb
  replace b9 := b9.below hb
  replace H0 := H0.trans (hb.mono H0.size)
  clear hb
  go_wp2_with fail
  refine hK.out _ _ (b0.all6) (fun hHeld => ?_)
  clear hK K
  (try simp only [getElem_toArray, getElem_cons_succ, getElem_cons_zero, Act.put, setIfInBounds_toArray, set_cons_zero, set_cons_succ])
  refine rd1 5 (by kernel_rfl) rfl (fun K hK => ?_)
  go_simp
  go_at_call 84
  refine (gq_v h0).mono ?_
  rintro e w3 ⟨s4, A4, n4, c4, D4, m4, e4, rfl, g4, hb⟩
  replace h0 := h0.below hb
  replace h1 := h1.below hb
  replace g3 := g3.below hb
  replace b0 := b0.below hb
  replace b9 := b9.below hb
  replace H0 := H0.trans (hb.mono H0.size)
  clear hb
  go_wp2_with fail
  refine hK.out _ _ (b0.all6) (fun hHeld => ?_)
  clear hK K
  (try simp only [getElem_toArray, getElem_cons_succ, getElem_cons_zero, Act.put, setIfInBounds_toArray, set_cons_zero, set_cons_succ])
  refine rd1 6 (by kernel_rfl) rfl (fun K hK => ?_)
  go_simp
  go_at_call 52
  refine (nopp_v g4).mono ?_
  rintro e w4 ⟨s5, rfl, g5, hb⟩
  replace h0 := h0.below hb
  replace h1 := h1.below hb
  replace g3 := g3.below hb
  replace g4 := g4.below hb
  replace b0 := b0.below hb
  replace b9 := b9.below hb
  replace H0 := H0.trans (hb.mono H0.size)
  clear hb
  clear g4
  go_wp2_with fail
  refine hK.out _ _ (b0.all6) (fun hHeld => ?_)
  clear hK K
  (try simp only [getElem_toArray, getElem_cons_succ, getElem_cons_zero, Act.put, setIfInBounds_toArray, set_cons_zero, set_cons_succ])
  refine tk 7 ?_ rfl (by kernel_rfl) (by kernel_rfl) (by kernel_rfl) (fun _ _ _ h => h) (by rfl) ?_ (by assumption) ?_
  rotate_left
  · (intro w hSw; (try dsimp only at hSw); go_simp; (try with_reducible rfl))
  (try simp only [getElem_toArray, getElem_cons_succ, getElem_cons_zero, Act.put, setIfInBounds_toArray, set_cons_zero, set_cons_succ])
  obtain ⟨cb90, yb90, cb91, yb91, cb92, yb92, cb93, yb93, cb94, yb94, cb95, yb95⟩ := b9.cf6
  refine rd1 8 (by kernel_rfl) rfl (fun K hK => ?_)
  go_simp
  clear cb90 yb90 cb91 yb91 cb92 yb92 cb93 yb93 cb94 yb94 cb95 yb95
  have hg := only_store6 w4 (w.heap.size + 1) (.bool s3) (.slice A3 n3 c3) (.slice D3 m3 e3) (.bool s5) (.slice A4 n4 c4) (.slice D4 m4 e4)
  have hB := b9.stored6 (.bool s3) (.slice A3 n3 c3) (.slice D3 m3 e3) (.bool s5) (.slice A4 n4 c4) (.slice D4 m4 e4)
  generalize hX : ((((((w4.setCell ⟨w.heap.size + 1, 0, none⟩ (.bool s3)).setCell ⟨w.heap.size + 1, 1, none⟩ (.slice A3 n3 c3)).setCell ⟨w.heap.size + 1, 2, none⟩ (.slice D3 m3 e3)).setCell ⟨w.heap.size + 1, 3, none⟩ (.bool s5)).setCell ⟨w.heap.size + 1, 4, none⟩ (.slice A4 n4 c4)).setCell ⟨w.heap.size + 1, 5, none⟩ (.slice D4 m4 e4)) = X5 at hg hB ⊢
  clear hX
  replace h0 := h0.kept b9 (by simp [notInt]) hg
  replace h1 := h1.kept b9 (by simp [notInt]) hg
  replace g3 := g3.kept b9 (by simp [notInt]) hg
  replace g5 := g5.kept b9 (by simp [notInt]) hg
  replace b0 := b0.other hg (by omega)
  replace b9 := hB
  replace H0 := below_only H0 hg (by omega) H0.size
  clear hg hB
  refine hK.out _ _ (b0.all6) (fun hHeld => ?_)
  clear hK K
  (try simp only [getElem_toArray, getElem_cons_succ, getElem_cons_zero, Act.put, setIfInBounds_toArray, set_cons_zero, set_cons_succ])
  refine wpAnyH_done (by kernel_rfl) ?_ _
  refine NoPanic.normal ?_
  go_wp2_with fail
  refine bodyPost_ret (ret_geop rfl rfl b9) rfl ?_
  exact ⟨_, _, _, _, _, _, _, _, _, _, _, _, _, _, rfl, g3, g5, H0⟩
set_option maxRecDepth 100000 in
set_option maxHeartbeats 4000000 in
theorem ncompareL_v (h0 : NI w s0 (.slice A0 n0 c0) z0 L) (h1 : NI w s1 (.slice A1 n1 c1) z1 L0) (hk : (z0 - z1).sign = k) (hL : L ≤ 10000) (hL0 : L0 ≤ 10000) :
    Calls Tryz.prog 101 #[.agg #[.bool s0, .slice A0 n0 c0], .agg #[.bool s1, .slice A1 n1 c1]] w fun e w' => e = .returned (.int .i64 k) ∧ Below w.heap.size w w' := by
  rw [Int.sub_eq_add_neg] at hk
  have HK := Lib.hid hk
  clear hk
  go_enter Tryz.func101, Tryz.ntmps101
  go_wp2_with fail
  obtain ⟨W0, hW, b0, b1, hbW, hszW0⟩ := boxes2 w #[.bool s0, .slice A0 n0 c0] #[.bool s1, .slice A1 n1 c1] 35 35
  rw [hW]
  clear hW
  replace h0 := h0.below hbW
  replace h1 := h1.below hbW
  have H0 := hbW
  clear hbW
  have hD := drawn_below W0
  replace h0 := h0.below hD
  replace h1 := h1.below hD
  replace b0 := b0.below hD
  replace b1 := b1.below hD
  replace H0 := H0.trans (hD.mono H0.size)
  clear hD
  refine wp_region_noPanic ?_
  refine wp_region_held_drew (S := (fun V => V.cell? ⟨w.heap.size, 0, none⟩ = some (.bool s0) ∧ V.cell? ⟨w.heap.size, 1, none⟩ = some (.slice A0 n0 c0) ∧ V.cell? ⟨w.heap.size + 1, 0, none⟩ = some (.bool s1) ∧ V.cell? ⟨w.heap.size + 1, 1, none⟩ = some (.slice A1 n1 c1))) (by kernel_rfl) (b0.and2 (b1.all2)) (fun hHeld => ?_)
  generalize W0.drew = v1 at H0 hHeld h0 h1 b0 b1 ⊢
  refine tk 0 ?_ rfl (by kernel_rfl) (by kernel_rfl) (by kernel_rfl) (fun _ _ _ h => h) (by rfl) ?_ (by assumption) ?_
  rotate_left
  · (intro w hSw; (try dsimp only at hSw); go_simp; (try with_reducible rfl))
  (try simp only [getElem_toArray, getElem_cons_zero, Act.put, setIfInBounds_toArray, set_cons_zero, set_cons_succ])
  refine tk 1 ?_ rfl (by kernel_rfl) (by kernel_rfl) (by kernel_rfl) (fun _ _ _ h => h) (by rfl) ?_ (by assumption) ?_
  rotate_left
  · (intro w hSw; (try dsimp only at hSw); go_simp; (try with_reducible rfl))
  (try simp only [getElem_toArray, getElem_cons_succ, getElem_cons_zero, Act.put, setIfInBounds_toArray, set_cons_zero, set_cons_succ])
  refine rd1 2 (by kernel_rfl) rfl (fun K hK => ?_)
  go_simp
  go_at_call 97
  refine (nminus_v h1).mono ?_
  rintro e w2 ⟨s2, rfl, g2, hb⟩
  replace h0 := h0.below hb
  replace h1 := h1.below hb
  replace b0 := b0.below hb
  replace b1 := b1.below hb
  replace H0 := H0.trans (hb.mono H0.size)
  clear hb
  go_wp2_with fail
  refine hK.out _ _ (b0.and2 (b1.all2)) (fun hHeld => ?_)
  clear hK K
  (try simp only [getElem_toArray, getElem_cons_succ, getElem_cons_zero, Act.put, setIfInBounds_toArray, set_cons_zero, set_cons_succ])
  refine rd1 3 (by kernel_rfl) rfl (fun K hK => ?_)
  go_simp
  go_at_call 122
  refine (nadd_v h0 g2 (by omega) (by omega)).mono ?_
  rintro e w3 ⟨s3, A3, n3, c3, rfl, g3, hb⟩
  replace h0 := h0.below hb
  replace h1 := h1.below hb
  replace g2 := g2.below hb
  replace b0 := b0.below hb
  replace b1 := b1.below hb
  replace H0 := H0.trans (hb.mono H0.size)
  clear hb
  clear g2
  go_wp2_with fail
  refine hK.out _ _ (b0.and2 (b1.all2)) (fun hHeld => ?_)
  clear hK K
  (try simp only [getElem_toArray, getElem_cons_succ, getElem_cons_zero, Act.put, setIfInBounds_toArray, set_cons_zero, set_cons_succ])
  refine rd1 4 (by kernel_rfl) rfl (fun K hK => ?_)
  go_simp
  go_at_call 105
  refine (nsign_v g3 HK.out).mono ?_
  rintro e w4 ⟨rfl, hb⟩
  replace h0 := h0.below hb
  replace h1 := h1.below hb
  replace g3 := g3.below hb
  replace b0 := b0.below hb
  replace b1 := b1.below hb
  replace H0 := H0.trans (hb.mono H0.size)
  clear hb
  clear g3
  go_wp2_with fail
  refine hK.out _ _ (b0.and2 (b1.all2)) (fun hHeld => ?_)
  clear hK K
  (try simp only [getElem_toArray, getElem_cons_succ, getElem_cons_zero, Act.put, setIfInBounds_toArray, set_cons_zero, set_cons_succ])
  refine tk 5 ?_ rfl (by kernel_rfl) (by kernel_rfl) (by kernel_rfl) (fun _ _ _ h => h) (by rfl) ?_ (by assumption) ?_
  rotate_left
  · (intro w hSw; (try dsimp only at hSw); go_simp; (try with_reducible rfl))
  (try simp only [getElem_toArray, getElem_cons_succ, getElem_cons_zero, Act.put, setIfInBounds_toArray, set_cons_zero, set_cons_succ])
  refine wpAnyH_done (by kernel_rfl) ?_ _
  refine NoPanic.normal ?_
  go_wp2_with fail
  go_returns
  exact ⟨rfl, H0⟩
set_option maxRecDepth 100000 in
set_option maxHeartbeats 4000000 in
theorem gcmp_v (h0 : NI w s0 (.slice A0 n0 c0) z0 L) (h1 : NI w s1 (.slice A1 n1 c1) z1 L) (h2 : NI w s2 (.slice A2 n2 c2) z2 L) (h3 : NI w s3 (.slice A3 n3 c3) z3 L0) (h4 : NI w s4 (.slice A4 n4 c4) z4 L0) (h5 : NI w s5 (.slice A5 n5 c5) z5 L0) (hk : cmp3 z0 z1 z2 z3 z4 z5 = k) (hL : L ≤ 10000) (hL0 : L0 ≤ 10000) :
    Calls Tryz.prog 45 #[.agg #[.bool s0, .slice A0 n0 c0, .bool s1, .slice A1 n1 c1, .bool s2, .slice A2 n2 c2], .agg #[.bool s3, .slice A3 n3 c3, .bool s4, .slice A4 n4 c4, .bool s5, .slice A5 n5 c5]] w fun e w' => e = .returned (.int .i64 k) ∧ Below w.heap.size w w' := by
  rcases cmp3_cases hk with ⟨k0, kn⟩ | ⟨k0, k1, kn⟩ | ⟨k0, k1, k2⟩
  · clear hk
    have HK0 := Lib.hid k0
    clear k0
    go_enter Tryz.func45, Tryz.ntmps45
    go_wp2_with fail
    obtain ⟨W0, hW, b0, b1, hbW, hszW0⟩ := boxes2 w #[.bool s0, .slice A0 n0 c0, .bool s1, .slice A1 n1 c1, .bool s2, .slice A2 n2 c2] #[.bool s3, .slice A3 n3 c3, .bool s4, .slice A4 n4 c4, .bool s5, .slice A5 n5 c5] 37 37
    rw [hW]
    clear hW
    replace h0 := h0.below hbW
    replace h1 := h1.below hbW
    replace h2 := h2.below hbW
    replace h3 := h3.below hbW
    replace h4 := h4.below hbW
    replace h5 := h5.below hbW
    have H0 := hbW
    clear hbW
    obtain ⟨cb00, cb01, cb02, cb03, cb04, cb05⟩ := b0.cells6
    obtain ⟨cb10, cb11, cb12, cb13, cb14, cb15⟩ := b1.cells6
    go_wp2_with fail
    clear cb00 cb01 cb02 cb03 cb04 cb05 cb10 cb11 cb12 cb13 cb14 cb15
    refine (ncompareL_v h0 h3 HK0.out (by omega) (by omega)).mono ?_
    rintro e w1 ⟨rfl, hb⟩
    replace h0 := h0.below hb
    replace h1 := h1.below hb
    replace h2 := h2.below hb
    replace h3 := h3.below hb
    replace h4 := h4.below hb
    replace h5 := h5.below hb
    replace b0 := b0.below hb
    replace b1 := b1.below hb
    replace H0 := H0.trans (hb.mono H0.size)
    clear hb
    go_wp2_with fail
    go_returns
    exact ⟨rfl, H0⟩
  · clear hk
    have HK0 := Lib.hid k0
    clear k0
    have HK1 := Lib.hid k1
    clear k1
    go_enter Tryz.func45, Tryz.ntmps45
    go_wp2_with fail
    obtain ⟨W0, hW, b0, b1, hbW, hszW0⟩ := boxes2 w #[.bool s0, .slice A0 n0 c0, .bool s1, .slice A1 n1 c1, .bool s2, .slice A2 n2 c2] #[.bool s3, .slice A3 n3 c3, .bool s4, .slice A4 n4 c4, .bool s5, .slice A5 n5 c5] 37 37
    rw [hW]
    clear hW
    replace h0 := h0.below hbW
    replace h1 := h1.below hbW
    replace h2 := h2.below hbW
    replace h3 := h3.below hbW
    replace h4 := h4.below hbW
    replace h5 := h5.below hbW
    have H0 := hbW
    clear hbW
    obtain ⟨cb00, cb01, cb02, cb03, cb04, cb05⟩ := b0.cells6
    obtain ⟨cb10, cb11, cb12, cb13, cb14, cb15⟩ := b1.cells6
    go_wp2_with fail
    clear cb00 cb01 cb02 cb03 cb04 cb05 cb10 cb11 cb12 cb13 cb14 cb15
    refine (ncompareL_v h0 h3 HK0.out (by omega) (by omega)).mono ?_
    rintro e w1 ⟨rfl, hb⟩
    replace h0 := h0.below hb
    replace h1 := h1.below hb
    replace h2 := h2.below hb
    replace h3 := h3.below hb
    replace h4 := h4.below hb
    replace h5 := h5.below hb
    replace b0 := b0.below hb
    replace b1 := b1.below hb
    replace H0 := H0.trans (hb.mono H0.size)
    clear hb
    obtain ⟨cb00, cb01, cb02, cb03, cb04, cb05⟩ := b0.cells6
    obtain ⟨cb10, cb11, cb12, cb13, cb14, cb15⟩ := b1.cells6
    go_wp2_with fail
    clear cb00 cb01 cb02 cb03 cb04 cb05 cb10 cb11 cb12 cb13 cb14 cb15
    refine (ncompareL_v h1 h4 HK1.out (by omega) (by omega)).mono ?_
    rintro e w2 ⟨rfl, hb⟩
    replace h0 := h0.below hb
    replace h1 := h1.below hb
    replace h2 := h2.below hb
    replace h3 := h3.below hb
    replace h4 := h4.below hb
    replace h5 := h5.below hb
    replace b0 := b0.below hb
    replace b1 := b1.below hb
    replace H0 := H0.trans (hb.mono H0.size)
    clear hb
    go_wp2_with fail
    go_returns
    exact ⟨rfl, H0⟩
  · clear hk
    have HK0 := Lib.hid k0
    clear k0
    have HK1 := Lib.hid k1
    clear k1
    have HK2 := Lib.hid k2
    clear k2
    go_enter Tryz.func45, Tryz.ntmps45
    go_wp2_with fail
    obtain ⟨W0, hW, b0, b1, hbW, hszW0⟩ := boxes2 w #[.bool s0, .slice A0 n0 c0, .bool s1, .slice A1 n1 c1, .bool s2, .slice A2 n2 c2] #[.bool s3, .slice A3 n3 c3, .bool s4, .slice A4 n4 c4, .bool s5, .slice A5 n5 c5] 37 37
    rw [hW]
    clear hW
    replace h0 := h0.below hbW
    replace h1 := h1.below hbW
    replace h2 := h2.below hbW
    replace h3 := h3.below hbW
    replace h4 := h4.below hbW
    replace h5 := h5.below hbW
    have H0 := hbW
    clear hbW
    obtain ⟨cb00, cb01, cb02, cb03, cb04, cb05⟩ := b0.cells6
    obtain ⟨cb10, cb11, cb12, cb13, cb14, cb15⟩ := b1.cells6
    go_wp2_with fail
    clear cb00 cb01 cb02 cb03 cb04 cb05 cb10 cb11 cb12 cb13 cb14 cb15
    refine (ncompareL_v h0 h3 HK0.out (by omega) (by omega)).mono ?_
    rintro e w1 ⟨rfl, hb⟩
    replace h0 := h0.below hb
    replace h1 := h1.below hb
    replace h2 := h2.below hb
    replace h3 := h3.below hb
    replace h4 := h4.below hb
    replace h5 := h5.below hb
    replace b0 := b0.below hb
    replace b1 := b1.below hb
    replace H0 := H0.trans (hb.mono H0.size)
    clear hb
    obtain ⟨cb00, cb01, cb02, cb03, cb04, cb05⟩ := b0.cells6
    obtain ⟨cb10, cb11, cb12, cb13, cb14, cb15⟩ := b1.cells6
    go_wp2_with fail
    clear cb00 cb01 cb02 cb03 cb04 cb05 cb10 cb11 cb12 cb13 cb14 cb15
    refine (ncompareL_v h1 h4 HK1.out (by omega) (by omega)).mono ?_
    rintro e w2 ⟨rfl, hb⟩
    replace h0 := h0.below hb
    replace h1 := h1.below hb
    replace h2 := h2.below hb
    replace h3 := h3.below hb
    replace h4 := h4.below hb
    replace h5 := h5.below hb
    replace b0 := b0.below hb
    replace b1 := b1.below hb
    replace H0 := H0.trans (hb.mono H0.size)
    clear hb
    obtain ⟨cb00, cb01, cb02, cb03, cb04, cb05⟩ := b0.cells6
    obtain ⟨cb10, cb11, cb12, cb13, cb14, cb15⟩ := b1.cells6
    go_wp2_with fail
    clear cb00 cb01 cb02 cb03 cb04 cb05 cb10 cb11 cb12 cb13 cb14 cb15
    refine (ncompareL_v h2 h5 HK2.out (by omega) (by omega)).mono ?_
    rintro e w3 ⟨rfl, hb⟩
    replace h0 := h0.below hb
    replace h1 := h1.below hb
    replace h2 := h2.below hb
    replace h3 := h3.below hb
    replace h4 := h4.below hb
    replace h5 := h5.below hb
    replace b0 := b0.below hb
    replace b1 := b1.below hb
    replace H0 := H0.trans (hb.mono H0.size)
    clear hb
    go_wp2_with fail
    go_returns
    exact ⟨rfl, H0⟩
set_option maxRecDepth 100000 in
set_option maxHeartbeats 4000000 in
theorem gparallel_v (h0 : NI w s0 (.slice A0 n0 c0) z0 4) (h1 : NI w s1 (.slice A1 n1 c1) z1 4) (h3 : NI w s3 (.slice A3 n3 c3) z3 4) (h4 : NI w s4 (.slice A4 n4 c4) z4 4) (hk : (z0 * z4 - z1 * z3).sign = k) :
    Calls Tryz.prog 48 #[.agg #[.bool s0, .slice A0 n0 c0, .bool s1, .slice A1 n1 c1, .bool s2, .slice A2 n2 c2], .agg #[.bool s3, .slice A3 n3 c3, .bool s4, .slice A4 n4 c4, .bool s5, .slice A5 n5 c5]] w fun e w' => e = .returned (.bool ((k : Int) == 0)) ∧ Below w.heap.size w w' := by
  have HK : Hid (rsg ((z1 : Rat) * -(z3 : Rat) - -(z0 : Rat) * (z4 : Rat)) = k) := Lib.hid (by rw [← hk, ← rsg_int]; congr 1; rw [Rat.intCast_sub, Rat.intCast_mul, Rat.intCast_mul]; grind)
  clear hk
  go_enter Tryz.func48, Tryz.ntmps48
  go_wp2_with fail
  obtain ⟨W0, hW, b0, b1, hbW, hszW0⟩ := boxes2 w #[.bool s0, .slice A0 n0 c0, .bool s1, .slice A1 n1 c1, .bool s2, .slice A2 n2 c2] #[.bool s3, .slice A3 n3 c3, .bool s4, .slice A4 n4 c4, .bool s5, .slice A5 n5 c5] 37 37
  rw [hW]
  clear hW
  replace h0 := h0.below hbW
  replace h1 := h1.below hbW
  replace h3 := h3.below hbW
  replace h4 := h4.below hbW
  have H0 := hbW
  clear hbW
  have hD := drawn_below W0
  replace h0 := h0.below hD
  replace h1 := h1.below hD
  replace h3 := h3.below hD
  replace h4 := h4.below hD
  replace b0 := b0.below hD
  replace b1 := b1.below hD
  replace H0 := H0.trans (hD.mono H0.size)
  clear hD
  refine wp_region_noPanic ?_
  refine wp_region_held_drew (S := (fun V => V.cell? ⟨w.heap.size, 0, none⟩ = some (.bool s0) ∧ V.cell? ⟨w.heap.size, 1, none⟩ = some (.slice A0 n0 c0) ∧ V.cell? ⟨w.heap.size, 2, none⟩ = some (.bool s1) ∧ V.cell? ⟨w.heap.size, 3, none⟩ = some (.slice A1 n1 c1) ∧ V.cell? ⟨w.heap.size, 4, none⟩ = some (.bool s2) ∧ V.cell? ⟨w.heap.size, 5, none⟩ = some (.slice A2 n2 c2) ∧ V.cell? ⟨w.heap.size + 1, 0, none⟩ = some (.bool s3) ∧ V.cell? ⟨w.heap.size + 1, 1, none⟩ = some (.slice A3 n3 c3) ∧ V.cell? ⟨w.heap.size + 1, 2, none⟩ = some (.bool s4) ∧ V.cell? ⟨w.heap.size + 1, 3, none⟩ = some (.slice A4 n4 c4) ∧ V.cell? ⟨w.heap.size + 1, 4, none⟩ = some (.bool s5) ∧ V.cell? ⟨w.heap.size + 1, 5, none⟩ = some (.slice A5 n5 c5))) (by kernel_rfl) (b0.and6 (b1.all6)) (fun hHeld => ?_)
  generalize W0.drew = v1 at H0 hHeld h0 h1 h3 h4 b0 b1 ⊢
  refine tk 0 ?_ rfl (by kernel_rfl) (by kernel_rfl) (by kernel_rfl) (fun _ _ _ h => h) (by rfl) ?_ (by assumption) ?_
  rotate_left
  · (intro w hSw; (try dsimp only at hSw); go_simp; (try with_reducible rfl))
  (try simp only [getElem_toArray, getElem_cons_zero, Act.put, setIfInBounds_toArray, set_cons_zero, set_cons_succ])
  refine tk 2 ?_ rfl (by kernel_rfl) (by kernel_rfl) (by kernel_rfl) (fun _ _ _ h => h) (by rfl) ?_ (by assumption) ?_
  rotate_left
  · (intro w hSw; (try dsimp only at hSw); go_simp; (try with_reducible rfl))
  (try simp only [getElem_toArray, getElem_cons_succ, getElem_cons_zero, Act.put, setIfInBounds_toArray, set_cons_zero, set_cons_succ])
  refine rd1 1 (by kernel_rfl) rfl (fun K hK => ?_)
  go_simp
  go_at_call 32
  refine (gdir_v h0 h1).mono ?_
  rintro e w2 ⟨s6, A6, n6, c6, D6, m6, e6, s7, A7, n7, c7, D7, m7, e7, rfl, g6, g7, hb⟩
  replace h0 := h0.below hb
  replace h1 := h1.below hb
  replace h3 := h3.below hb
  replace h4 := h4.below hb
  replace b0 := b0.below hb
  replace b1 := b1.below hb
  replace H0 := H0.trans (hb.mono H0.size)
  clear hb
  go_wp2_with fail
  refine hK.out _ _ (b0.and6 (b1.all6)) (fun hHeld => ?_)
  clear hK K
  (try simp only [getElem_toArray, getElem_cons_succ, getElem_cons_zero, Act.put, setIfInBounds_toArray, set_cons_zero, set_cons_succ])
  refine rd1 3 (by kernel_rfl) rfl (fun K hK => ?_)
  go_simp
  go_at_call 32
  refine (gdir_v h3 h4).mono ?_
  rintro e w3 ⟨s8, A8, n8, c8, D8, m8, e8, s9, A9, n9, c9, D9, m9, e9, rfl, g8, g9, hb⟩
  replace h0 := h0.below hb
  replace h1 := h1.below hb
  replace h3 := h3.below hb
  replace h4 := h4.below hb
  replace g6 := g6.below hb
  replace g7 := g7.below hb
  replace b0 := b0.below hb
  replace b1 := b1.below hb
  replace H0 := H0.trans (hb.mono H0.size)
  clear hb
  go_wp2_with fail
  refine hK.out _ _ (b0.and6 (b1.all6)) (fun hHeld => ?_)
  clear hK K
  (try simp only [getElem_toArray, getElem_cons_succ, getElem_cons_zero, Act.put, setIfInBounds_toArray, set_cons_zero, set_cons_succ])
  refine rd1 4 (by kernel_rfl) rfl (fun K hK => ?_)
  go_simp
  go_at_call 104
  refine (gcross_v g6 g7 g8 g9 (by omega) (by omega)).mono ?_
  rintro e w4 ⟨s10, A10, n10, c10, D10, m10, e10, rfl, g10, hb⟩
  replace h0 := h0.below hb
  replace h1 := h1.below hb
  replace h3 := h3.below hb
  replace h4 := h4.below hb
  replace g6 := g6.below hb
  replace g7 := g7.below hb
  replace g8 := g8.below hb
  replace g9 := g9.below hb
  replace b0 := b0.below hb
  replace b1 := b1.below hb
  replace H0 := H0.trans (hb.mono H0.size)
  clear hb
  clear g6
  clear g7
  clear g8
  clear g9
  go_wp2_with fail
  refine hK.out _ _ (b0.and6 (b1.all6)) (fun hHeld => ?_)
  clear hK K
  (try simp only [getElem_toArray, getElem_cons_succ, getElem_cons_zero, Act.put, setIfInBounds_toArray, set_cons_zero, set_cons_succ])
  refine rd1 5 (by kernel_rfl) rfl (fun K hK => ?_)
  go_simp
  go_at_call 50
  refine (nqs_v g10 HK.out).mono ?_
  rintro e w5 ⟨rfl, hb⟩
  replace h0 := h0.below hb
  replace h1 := h1.below hb
  replace h3 := h3.below hb
  replace h4 := h4.below hb
  replace g10 := g10.below hb
  replace b0 := b0.below hb
  replace b1 := b1.below hb
  replace H0 := H0.trans (hb.mono H0.size)
  clear hb
  clear g10
  go_wp2_with fail
  refine hK.out _ _ (b0.and6 (b1.all6)) (fun hHeld => ?_)
  clear hK K
  (try simp only [getElem_toArray, getElem_cons_succ, getElem_cons_zero, Act.put, setIfInBounds_toArray, set_cons_zero, set_cons_succ])
  refine tk 6 ?_ rfl (by kernel_rfl) (by kernel_rfl) (by kernel_rfl) (fun _ _ _ h => h) (by rfl) ?_ (by assumption) ?_
  rotate_left
  · (intro w hSw; (try dsimp only at hSw); go_simp; (try with_reducible rfl))
  (try simp only [getElem_toArray, getElem_cons_succ, getElem_cons_zero, Act.put, setIfInBounds_toArray, set_cons_zero, set_cons_succ])
  refine tk 7 ?_ rfl (by kernel_rfl) (by kernel_rfl) (by kernel_rfl) (fun _ _ _ h => h) (by rfl) ?_ (by assumption) ?_
  rotate_left
  · (intro w hSw; (try dsimp only at hSw); go_simp; (try with_reducible rfl))
  (try simp only [getElem_toArray, getElem_cons_succ, getElem_cons_zero, Act.put, setIfInBounds_toArray, set_cons_zero, set_cons_succ])
  refine wpAnyH_done (by kernel_rfl) ?_ _
  refine NoPanic.normal ?_
  go_wp2_with fail
  go_returns
  exact ⟨rfl, H0⟩
end
end Go.Proofs.YtancgkmkbgkncaaGreat
namespace Go.Proofs.YtancgkmkbgkncaaGreat
open List (getElem_toArray getElem_cons_succ getElem_cons_zero setIfInBounds_toArray set_cons_zero set_cons_succ)
open Go.RowKit

section
variable {A0 A1 A2 A3 A4 A5 A6 A7 A8 A9 A10 A11 A12 A13 D0 D1 D2 D3 D4 D5 D6 D7 D8 D9 D10 D11 D12 D13 : Option Addr} {n0 n1 n2 n3 n4 n5 n6 n7 n8 n9 n10 n11 n12 n13 c0 c1 c2 c3 c4 c5 c6 c7 c8 c9 c10 c11 c12 c13 m0 m1 m2 m3 m4 m5 m6 m7 m8 m9 m10 m11 m12 m13 e0 e1 e2 e3 e4 e5 e6 e7 e8 e9 e10 e11 e12 e13 : Nat} {s0 s1 s2 s3 s4 s5 s6 s7 s8 s9 s10 s11 s12 s13 : Bool} {q0 q1 q2 q3 q4 q5 q6 q7 : Rat} {z0 z1 z2 z3 z4 z5 z6 z7 z8 z9 z10 z11 : Int} {L L0 L1 x y : Nat} {k : Int} {b : Bool} {w : World}
set_option maxRecDepth 100000 in
set_option maxHeartbeats 4000000 in
theorem lmeet_z (h0 : NI w s0 (.slice A0 n0 c0) z0 L) (h1 : NI w s1 (.slice A1 n1 c1) z1 L) (h2 : NI w s2 (.slice A2 n2 c2) z2 L) (v0 : VL z0 z1 z2) (h3 : NI w s3 (.slice A3 n3 c3) z3 L) (h4 : NI w s4 (.slice A4 n4 c4) z4 L) (h5 : NI w s5 (.slice A5 n5 c5) z5 L) (v1 : VL z3 z4 z5) (hz : z0 * z4 - z1 * z3 = 0) (hL : L ≤ 10000) :
    Calls Tryz.prog 41 #[.agg #[.bool s0, .slice A0 n0 c0, .bool s1, .slice A1 n1 c1, .bool s2, .slice A2 n2 c2], .agg #[.bool s3, .slice A3 n3 c3, .bool s4, .slice A4 n4 c4, .bool s5, .slice A5 n5 c5]] w fun e w' => e = .returned (.tuple #[.agg #[.bool false, .slice none 0 0, .slice none 0 0, .bool false, .slice none 0 0, .slice none 0 0], .bool false]) ∧ Below w.heap.size w w' := by
  have V0 := Lib.hid v0
  clear v0
  have V1 := Lib.hid v1
  clear v1
  have HZ := Lib.hid hz
  clear hz
  go_enter Tryz.func41, Tryz.ntmps41
  go_wp2_with fail
  obtain ⟨W0, hW, b0, b1, b9, hbW, hszW0⟩ := boxes3 w #[.bool s0, .slice A0 n0 c0, .bool s1, .slice A1 n1 c1, .bool s2, .slice A2 n2 c2] #[.bool s3, .slice A3 n3 c3, .bool s4, .slice A4 n4 c4, .bool s5, .slice A5 n5 c5] #[.bool false, .slice none 0 0, .slice none 0 0, .bool false, .slice none 0 0, .slice none 0 0] 30 30 54
  rw [hW]
  clear hW
  replace h0 := h0.below hbW
  replace h1 := h1.below hbW
  replace h2 := h2.below hbW
  replace h3 := h3.below hbW
  replace h4 := h4.below hbW
  replace h5 := h5.below hbW
  have H0 := hbW
  clear hbW
  obtain ⟨cb00, cb01, cb02, cb03, cb04, cb05⟩ := b0.cells6
  obtain ⟨cb10, cb11, cb12, cb13, cb14, cb15⟩ := b1.cells6
  go_wp2_with fail
  clear cb00 cb01 cb02 cb03 cb04 cb05 cb10 cb11 cb12 cb13 cb14 cb15
  refine (lboth_v h0 h1 h2 V0.out h3 h4 h5 V1.out (by omega)).mono ?_
  rintro e w1 ⟨rfl, hb⟩
  replace h0 := h0.below hb
  replace h1 := h1.below hb
  replace h2 := h2.below hb
  replace h3 := h3.below hb
  replace h4 := h4.below hb
  replace h5 := h5.below hb
  replace b0 := b0.below hb
  replace b1 := b1.below hb
  replace b9 := b9.below hb
  replace H0 := H0.trans (hb.mono H0.size)
  clear hb
  obtain ⟨cb00, cb01, cb02, cb03, cb04, cb05⟩ := b0.cells6
  obtain ⟨cb10, cb11, cb12, cb13, cb14, cb15⟩ := b1.cells6
  go_wp2_with fail
  clear cb00 cb01 cb02 cb03 cb04 cb05 cb10 cb11 cb12 cb13 cb14 cb15
  have hD := drawn_below w1
  replace h0 := h0.below hD
  replace h1 := h1.below hD
  replace h2 := h2.below hD
  replace h3 := h3.below hD
  replace h4 := h4.below hD
  replace h5 := h5.below hD
  replace b0 := b0.below hD
  replace b1 := b1.below hD
  replace b9 := b9.below hD
  replace H0 := H0.trans (hD.mono H0.size)
  clear hD
  refine wp_region_noPanic ?_
  refine wp_region_held_drew (S := (fun V => V.cell? ⟨w.heap.size, 0, none⟩ = some (.bool s0) ∧ V.cell? ⟨w.heap.size, 1, none⟩ = some (.slice A0 n0 c0) ∧ V.cell? ⟨w.heap.size, 2, none⟩ = some (.bool s1) ∧ V.cell? ⟨w.heap.size, 3, none⟩ = some (.slice A1 n1 c1) ∧ V.cell? ⟨w.heap.size, 4, none⟩ = some (.bool s2) ∧ V.cell? ⟨w.heap.size, 5, none⟩ = some (.slice A2 n2 c2) ∧ V.cell? ⟨w.heap.size + 1, 0, none⟩ = some (.bool s3) ∧ V.cell? ⟨w.heap.size + 1, 1, none⟩ = some (.slice A3 n3 c3) ∧ V.cell? ⟨w.heap.size + 1, 2, none⟩ = some (.bool s4) ∧ V.cell? ⟨w.heap.size + 1, 3, none⟩ = some (.slice A4 n4 c4) ∧ V.cell? ⟨w.heap.size + 1, 4, none⟩ = some (.bool s5) ∧ V.cell? ⟨w.heap.size + 1, 5, none⟩ = some (.slice A5 n5 c5))) (by kernel_rfl) (b0.and6 (b1.all6)) (fun hHeld => ?_)
  generalize w1.drew = v2 at H0 hHeld h0 h1 h2 h3 h4 h5 b0 b1 b9 ⊢
  refine tk 0 ?_ rfl (by kernel_rfl) (by kernel_rfl) (by kernel_rfl) (fun _ _ _ h => h) (by rfl) ?_ (by assumption) ?_
  rotate_left
  · (intro w hSw; (try dsimp only at hSw); go_simp; (try with_reducible rfl))
  (try simp only [getElem_toArray, getElem_cons_zero, Act.put, setIfInBounds_toArray, set_cons_zero, set_cons_succ])
  refine tk 2 ?_ rfl (by kernel_rfl) (by kernel_rfl) (by kernel_rfl) (fun _ _ _ h => h) (by rfl) ?_ (by assumption) ?_
  rotate_left
  · (intro w hSw; (try dsimp only at hSw); go_simp; (try with_reducible rfl))
  (try simp only [getElem_toArray, getElem_cons_succ, getElem_cons_zero, Act.put, setIfInBounds_toArray, set_cons_zero, set_cons_succ])
  refine rd1 1 (by kernel_rfl) rfl (fun K hK => ?_)
  go_simp
  go_at_call 82
  refine (lcoef_v).mono ?_
  rintro e w3 ⟨rfl, hb⟩
  replace h0 := h0.below hb
  replace h1 := h1.below hb
  replace h2 := h2.below hb
  replace h3 := h3.below hb
  replace h4 := h4.below hb
  replace h5 := h5.below hb
  replace b0 := b0.below hb
  replace b1 := b1.below hb
  replace b9 := b9.below hb
  replace H0 := H0.trans (hb.mono H0.size)
  clear hb
  go_wp2_with fail
  refine hK.out _ _ (b0.and6 (b1.all6)) (fun hHeld => ?_)
  clear hK K
  (try simp only [getElem_toArray, getElem_cons_succ, getElem_cons_zero, Act.put, setIfInBounds_toArray, set_cons_zero, set_cons_succ])
  refine rd1 3 (by kernel_rfl) rfl (fun K hK => ?_)
  go_simp
  go_at_call 82
  refine (lcoef_v).mono ?_
  rintro e w4 ⟨rfl, hb⟩
  replace h0 := h0.below hb
  replace h1 := h1.below hb
  replace h2 := h2.below hb
  replace h3 := h3.below hb
  replace h4 := h4.below hb
  replace h5 := h5.below hb
  replace b0 := b0.below hb
  replace b1 := b1.below hb
  replace b9 := b9.below hb
  replace H0 := H0.trans (hb.mono H0.size)
  clear hb
  go_wp2_with fail
  refine hK.out _ _ (b0.and6 (b1.all6)) (fun hHeld => ?_)
  clear hK K
  (try simp only [getElem_toArray, getElem_cons_succ, getElem_cons_zero, Act.put, setIfInBounds_toArray, set_cons_zero, set_cons_succ])
  refine rd1 4 (by kernel_rfl) rfl (fun K hK => ?_)
  go_simp
  go_at_call 91
  refine (dcross_v h0.ri h1.ri h2.ri h3.ri h4.ri h5.ri (by omega)).mono ?_
  rintro e w5 ⟨s6, A6, n6, c6, s7, A7, n7, c7, s8, A8, n8, c8, rfl, g6, g7, g8, hb⟩
  replace h0 := h0.below hb
  replace h1 := h1.below hb
  replace h2 := h2.below hb
  replace h3 := h3.below hb
  replace h4 := h4.below hb
  replace h5 := h5.below hb
  replace b0 := b0.below hb
  replace b1 := b1.below hb
  replace b9 := b9.below hb
  replace H0 := H0.trans (hb.mono H0.size)
  clear hb
  go_wp2_with fail
  refine hK.out _ _ (b0.and6 (b1.all6)) (fun hHeld => ?_)
  clear hK K
  (try simp only [getElem_toArray, getElem_cons_succ, getElem_cons_zero, Act.put, setIfInBounds_toArray, set_cons_zero, set_cons_succ])
  refine rd1 5 (by kernel_rfl) rfl (fun K hK => ?_)
  go_simp
  go_at_call 93
  refine (lpoint_z g6.ri g8.ri HZ.out).mono ?_
  rintro e w6 ⟨rfl, hb⟩
  replace h0 := h0.below hb
  replace h1 := h1.below hb
  replace h2 := h2.below hb
  replace h3 := h3.below hb
  replace h4 := h4.below hb
  replace h5 := h5.below hb
  replace g6 := g6.below hb
  replace g7 := g7.below hb
  replace g8 := g8.below hb
  replace b0 := b0.below hb
  replace b1 := b1.below hb
  replace b9 := b9.below hb
  replace H0 := H0.trans (hb.mono H0.size)
  clear hb
  clear g6
  clear g7
  clear g8
  go_wp2_with fail
  refine hK.out _ _ (b0.and6 (b1.all6)) (fun hHeld => ?_)
  clear hK K
  (try simp only [getElem_toArray, getElem_cons_succ, getElem_cons_zero, Act.put, setIfInBounds_toArray, set_cons_zero, set_cons_succ])
  refine tk 6 ?_ rfl (by kernel_rfl) (by kernel_rfl) (by kernel_rfl) (fun _ _ _ h => h) (by rfl) ?_ (by assumption) ?_
  rotate_left
  · (intro w hSw; (try dsimp only at hSw); go_simp; (try with_reducible rfl))
  (try simp only [getElem_toArray, getElem_cons_succ, getElem_cons_zero, Act.put, setIfInBounds_toArray, set_cons_zero, set_cons_succ])
  refine tk 7 ?_ rfl (by kernel_rfl) (by kernel_rfl) (by kernel_rfl) (fun _ _ _ h => h) (by rfl) ?_ (by assumption) ?_
  rotate_left
  · (intro w hSw; (try dsimp only at hSw); go_simp; (try with_reducible rfl))
  (try simp only [getElem_toArray, getElem_cons_succ, getElem_cons_zero, Act.put, setIfInBounds_toArray, set_cons_zero, set_cons_succ])
  obtain ⟨cb90, yb90, cb91, yb91, cb92, yb92, cb93, yb93, cb94, yb94, cb95, yb95⟩ := b9.cf6
  refine rd1 8 (by kernel_rfl) rfl (fun K hK => ?_)
  go_simp
  clear cb90 yb90 cb91 yb91 cb92 yb92 cb93 yb93 cb94 yb94 cb95 yb95
  have hg := only_store6 w6 (w.heap.size + 1 + 1) (.bool false) (.slice none 0 0) (.slice none 0 0) (.bool false) (.slice none 0 0) (.slice none 0 0)
  have hB := b9.stored6 (.bool false) (.slice none 0 0) (.slice none 0 0) (.bool false) (.slice none 0 0) (.slice none 0 0)
  generalize hX : ((((((w6.setCell ⟨w.heap.size + 1 + 1, 0, none⟩ (.bool false)).setCell ⟨w.heap.size + 1 + 1, 1, none⟩ (.slice none 0 0)).setCell ⟨w.heap.size + 1 + 1, 2, none⟩ (.slice none 0 0)).setCell ⟨w.heap.size + 1 + 1, 3, none⟩ (.bool false)).setCell ⟨w.heap.size + 1 + 1, 4, none⟩ (.slice none 0 0)).setCell ⟨w.heap.size + 1 + 1, 5, none⟩ (.slice none 0 0)) = X7 at hg hB ⊢
  clear hX
  replace h0 := h0.kept b9 (by simp [notInt]) hg
  replace h1 := h1.kept b9 (by simp [notInt]) hg
  replace h2 := h2.kept b9 (by simp [notInt]) hg
  replace h3 := h3.kept b9 (by simp [notInt]) hg
  replace h4 := h4.kept b9 (by simp [notInt]) hg
  replace h5 := h5.kept b9 (by simp [notInt]) hg
  replace b0 := b0.other hg (by omega)
  replace b1 := b1.other hg (by omega)
  replace b9 := hB
  replace H0 := below_only H0 hg (by omega) H0.size
  clear hg hB
  refine hK.out _ _ (b0.and6 (b1.all6)) (fun hHeld => ?_)
  clear hK K
  (try simp only [getElem_toArray, getElem_cons_succ, getElem_cons_zero, Act.put, setIfInBounds_toArray, set_cons_zero, set_cons_succ])
  refine tk 9 ?_ rfl (by kernel_rfl) (by kernel_rfl) (by kernel_rfl) (fun _ _ _ h => h) (by rfl) ?_ (by assumption) ?_
  rotate_left
  · (intro w hSw; (try dsimp only at hSw); go_simp; (try with_reducible rfl))
  (try simp only [getElem_toArray, getElem_cons_succ, getElem_cons_zero, Act.put, setIfInBounds_toArray, set_cons_zero, set_cons_succ])
  refine wpAnyH_done (by kernel_rfl) ?_ _
  refine NoPanic.normal ?_
  go_wp2_with fail
  refine bodyPost_ret (ret_pointb_b rfl rfl b9) rfl ?_
  exact ⟨rfl, H0⟩
set_option maxRecDepth 100000 in
set_option maxHeartbeats 4000000 in
theorem lmeet_v (h0 : NI w s0 (.slice A0 n0 c0) z0 L) (h1 : NI w s1 (.slice A1 n1 c1) z1 L) (h2 : NI w s2 (.slice A2 n2 c2) z2 L) (v0 : VL z0 z1 z2) (h3 : NI w s3 (.slice A3 n3 c3) z3 L) (h4 : NI w s4 (.slice A4 n4 c4) z4 L) (h5 : NI w s5 (.slice A5 n5 c5) z5 L) (v1 : VL z3 z4 z5) (hz : z0 * z4 - z1 * z3 ≠ 0) (hL : L ≤ 10000) :
    Calls Tryz.prog 41 #[.agg #[.bool s0, .slice A0 n0 c0, .bool s1, .slice A1 n1 c1, .bool s2, .slice A2 n2 c2], .agg #[.bool s3, .slice A3 n3 c3, .bool s4, .slice A4 n4 c4, .bool s5, .slice A5 n5 c5]] w fun e w' => ∃ s10 A10 n10 c10 D10 m10 e10 s11 A11 n11 c11 D11 m11 e11, e = .returned (.tuple #[.agg #[.bool s10, .slice A10 n10 c10, .slice D10 m10 e10, .bool s11, .slice A11 n11 c11, .slice D11 m11 e11], .bool true]) ∧ NQ w' s10 (.slice A10 n10 c10) (.slice D10 m10 e10) (((z1 * z5 - z2 * z4 : Int) : Rat) / ((z0 * z4 - z1 * z3 : Int) : Rat)) (2 * L + 1) ∧ NQ w' s11 (.slice A11 n11 c11) (.slice D11 m11 e11) (((z2 * z3 - z0 * z5 : Int) : Rat) / ((z0 * z4 - z1 * z3 : Int) : Rat)) (2 * L + 1) ∧ Below w.heap.size w w' := by
  have V0 := Lib.hid v0
  clear v0
  have V1 := Lib.hid v1
  clear v1
  have HZ := Lib.hid hz
  clear hz
  go_enter Tryz.func41, Tryz.ntmps41
  go_wp2_with fail
  obtain ⟨W0, hW, b0, b1, b9, hbW, hszW0⟩ := boxes3 w #[.bool s0, .slice A0 n0 c0, .bool s1, .slice A1 n1 c1, .bool s2, .slice A2 n2 c2] #[.bool s3, .slice A3 n3 c3, .bool s4, .slice A4 n4 c4, .bool s5, .slice A5 n5 c5] #[.bool false, .slice none 0 0, .slice none 0 0, .bool false, .slice none 0 0, .slice none 0 0] 30 30 54
  rw [hW]
  clear hW
  replace h0 := h0.below hbW
  replace h1 := h1.below hbW
  replace h2 := h2.below hbW
  replace h3 := h3.below hbW
  replace h4 := h4.below hbW
  replace h5 := h5.below hbW
  have H0 := hbW
  clear hbW
  obtain ⟨cb00, cb01, cb02, cb03, cb04, cb05⟩ := b0.cells6
  obtain ⟨cb10, cb11, cb12, cb13, cb14, cb15⟩ := b1.cells6
  go_wp2_with fail
  clear cb00 cb01 cb02 cb03 cb04 cb05 cb10 cb11 cb12 cb13 cb14 cb15
  refine (lboth_v h0 h1 h2 V0.out h3 h4 h5 V1.out (by omega)).mono ?_
  rintro e w1 ⟨rfl, hb⟩
  replace h0 := h0.below hb
  replace h1 := h1.below hb
  replace h2 := h2.below hb
  replace h3 := h3.below hb
  replace h4 := h4.below hb
  replace h5 := h5.below hb
  replace b0 := b0.below hb
  replace b1 := b1.below hb
  replace b9 := b9.below hb
  replace H0 := H0.trans (hb.mono H0.size)
  clear hb
  obtain ⟨cb00, cb01, cb02, cb03, cb04, cb05⟩ := b0.cells6
  obtain ⟨cb10, cb11, cb12, cb13, cb14, cb15⟩ := b1.cells6
  go_wp2_with fail
  clear cb00 cb01 cb02 cb03 cb04 cb05 cb10 cb11 cb12 cb13 cb14 cb15
  have hD := drawn_below w1
  replace h0 := h0.below hD
  replace h1 := h1.below hD
  replace h2 := h2.below hD
  replace h3 := h3.below hD
  replace h4 := h4.below hD
  replace h5 := h5.below hD
  replace b0 := b0.below hD
  replace b1 := b1.below hD
  replace b9 := b9.below hD
  replace H0 := H0.trans (hD.mono H0.size)
  clear hD
  refine wp_region_noPanic ?_
  refine wp_region_held_drew (S := (fun V => V.cell? ⟨w.heap.size, 0, none⟩ = some (.bool s0) ∧ V.cell? ⟨w.heap.size, 1, none⟩ = some (.slice A0 n0 c0) ∧ V.cell? ⟨w.heap.size, 2, none⟩ = some (.bool s1) ∧ V.cell? ⟨w.heap.size, 3, none⟩ = some (.slice A1 n1 c1) ∧ V.cell? ⟨w.heap.size, 4, none⟩ = some (.bool s2) ∧ V.cell? ⟨w.heap.size, 5, none⟩ = some (.slice A2 n2 c2) ∧ V.cell? ⟨w.heap.size + 1, 0, none⟩ = some (.bool s3) ∧ V.cell? ⟨w.heap.size + 1, 1, none⟩ = some (.slice A3 n3 c3) ∧ V.cell? ⟨w.heap.size + 1, 2, none⟩ = some (.bool s4) ∧ V.cell? ⟨w.heap.size + 1, 3, none⟩ = some (.slice A4 n4 c4) ∧ V.cell? ⟨w.heap.size + 1, 4, none⟩ = some (.bool s5) ∧ V.cell? ⟨w.heap.size + 1, 5, none⟩ = some (.slice A5 n5 c5))) (by kernel_rfl) (b0.and6 (b1.all6)) (fun hHeld => ?_)
  generalize w1.drew = v2 at H0 hHeld h0 h1 h2 h3 h4 h5 b0 b1 b9 ⊢
  refine tk 0 ?_ rfl (by kernel_rfl) (by kernel_rfl) (by kernel_rfl) (fun _ _ _ h => h) (by rfl) ?_ (by assumption) ?_
  rotate_left
  · (intro w hSw; (try dsimp only at hSw); go_simp; (try with_reducible rfl))
  (try simp only [getElem_toArray, getElem_cons_zero, Act.put, setIfInBounds_toArray, set_cons_zero, set_cons_succ])
  refine tk 2 ?_ rfl (by kernel_rfl) (by kernel_rfl) (by kernel_rfl) (fun _ _ _ h => h) (by rfl) ?_ (by assumption) ?_
  rotate_left
  · (intro w hSw; (try dsimp only at hSw); go_simp; (try with_reducible rfl))
  (try simp only [getElem_toArray, getElem_cons_succ, getElem_cons_zero, Act.put, setIfInBounds_toArray, set_cons_zero, set_cons_succ])
  refine rd1 1 (by kernel_rfl) rfl (fun K hK => ?_)
  go_simp
  go_at_call 82
  refine (lcoef_v).mono ?_
  rintro e w3 ⟨rfl, hb⟩
  replace h0 := h0.below hb
  replace h1 := h1.below hb
  replace h2 := h2.below hb
  replace h3 := h3.below hb
  replace h4 := h4.below hb
  replace h5 := h5.below hb
  replace b0 := b0.below hb
  replace b1 := b1.below hb
  replace b9 := b9.below hb
  replace H0 := H0.trans (hb.mono H0.size)
  clear hb
  go_wp2_with fail
  refine hK.out _ _ (b0.and6 (b1.all6)) (fun hHeld => ?_)
  clear hK K
  (try simp only [getElem_toArray, getElem_cons_succ, getElem_cons_zero, Act.put, setIfInBounds_toArray, set_cons_zero, set_cons_succ])
  refine rd1 3 (by kernel_rfl) rfl (fun K hK => ?_)
  go_simp
  go_at_call 82
  refine (lcoef_v).mono ?_
  rintro e w4 ⟨rfl, hb⟩
  replace h0 := h0.below hb
  replace h1 := h1.below hb
  replace h2 := h2.below hb
  replace h3 := h3.below hb
  replace h4 := h4.below hb
  replace h5 := h5.below hb
  replace b0 := b0.below hb
  replace b1 := b1.below hb
  replace b9 := b9.below hb
  replace H0 := H0.trans (hb.mono H0.size)
  clear hb
  go_wp2_with fail
  refine hK.out _ _ (b0.and6 (b1.all6)) (fun hHeld => ?_)
  clear hK K
  (try simp only [getElem_toArray, getElem_cons_succ, getElem_cons_zero, Act.put, setIfInBounds_toArray, set_cons_zero, set_cons_succ])
  refine rd1 4 (by kernel_rfl) rfl (fun K hK => ?_)
  go_simp
  go_at_call 91
  refine (dcross_v h0.ri h1.ri h2.ri h3.ri h4.ri h5.ri (by omega)).mono ?_
  rintro e w5 ⟨s6, A6, n6, c6, s7, A7, n7, c7, s8, A8, n8, c8, rfl, g6, g7, g8, hb⟩
  replace h0 := h0.below hb
  replace h1 := h1.below hb
  replace h2 := h2.below hb
  replace h3 := h3.below hb
  replace h4 := h4.below hb
  replace h5 := h5.below hb
  replace b0 := b0.below hb
  replace b1 := b1.below hb
  replace b9 := b9.below hb
  replace H0 := H0.trans (hb.mono H0.size)
  clear hb
  go_wp2_with fail
  refine hK.out _ _ (b0.and6 (b1.all6)) (fun hHeld => ?_)
  clear hK K
  (try simp only [getElem_toArray, getElem_cons_succ, getElem_cons_zero, Act.put, setIfInBounds_toArray, set_cons_zero, set_cons_succ])
  refine rd1 5 (by kernel_rfl) rfl (fun K hK => ?_)
  go_simp
  go_at_call 93
  refine (lpoint_v g6.ri g7.ri g8.ri HZ.out (by omega)).mono ?_
  rintro e w6 ⟨s10, A10, n10, c10, D10, m10, e10, s11, A11, n11, c11, D11, m11, e11, rfl, g9, g10, hb⟩
  replace h0 := h0.below hb
  replace h1 := h1.below hb
  replace h2 := h2.below hb
  replace h3 := h3.below hb
  replace h4 := h4.below hb
  replace h5 := h5.below hb
  replace g6 := g6.below hb
  replace g7 := g7.below hb
  replace g8 := g8.below hb
  replace b0 := b0.below hb
  replace b1 := b1.below hb
  replace b9 := b9.below hb
  replace H0 := H0.trans (hb.mono H0.size)
  clear hb
  clear g6
  clear g7
  clear g8
  go_wp2_with fail
  refine hK.out _ _ (b0.and6 (b1.all6)) (fun hHeld => ?_)
  clear hK K
  (try simp only [getElem_toArray, getElem_cons_succ, getElem_cons_zero, Act.put, setIfInBounds_toArray, set_cons_zero, set_cons_succ])
  refine tk 6 ?_ rfl (by kernel_rfl) (by kernel_rfl) (by kernel_rfl) (fun _ _ _ h => h) (by rfl) ?_ (by assumption) ?_
  rotate_left
  · (intro w hSw; (try dsimp only at hSw); go_simp; (try with_reducible rfl))
  (try simp only [getElem_toArray, getElem_cons_succ, getElem_cons_zero, Act.put, setIfInBounds_toArray, set_cons_zero, set_cons_succ])
  refine tk 7 ?_ rfl (by kernel_rfl) (by kernel_rfl) (by kernel_rfl) (fun _ _ _ h => h) (by rfl) ?_ (by assumption) ?_
  rotate_left
  · (intro w hSw; (try dsimp only at hSw); go_simp; (try with_reducible rfl))
  (try simp only [getElem_toArray, getElem_cons_succ, getElem_cons_zero, Act.put, setIfInBounds_toArray, set_cons_zero, set_cons_succ])
  obtain ⟨cb90, yb90, cb91, yb91, cb92, yb92, cb93, yb93, cb94, yb94, cb95, yb95⟩ := b9.cf6
  refine rd1 8 (by kernel_rfl) rfl (fun K hK => ?_)
  go_simp
  clear cb90 yb90 cb91 yb91 cb92 yb92 cb93 yb93 cb94 yb94 cb95 yb95
  have hg := only_store6 w6 (w.heap.size + 1 + 1) (.bool s10) (.slice A10 n10 c10) (.slice D10 m10 e10) (.bool s11) (.slice A11 n11 c11) (.slice D11 m11 e11)
  have hB := b9.stored6 (.bool s10) (.slice A10 n10 c10) (.slice D10 m10 e10) (.bool s11) (.slice A11 n11 c11) (.slice D11 m11 e11)
  generalize hX : ((((((w6.setCell ⟨w.heap.size + 1 + 1, 0, none⟩ (.bool s10)).setCell ⟨w.heap.size + 1 + 1, 1, none⟩ (.slice A10 n10 c10)).setCell ⟨w.heap.size + 1 + 1, 2, none⟩ (.slice D10 m10 e10)).setCell ⟨w.heap.size + 1 + 1, 3, none⟩ (.bool s11)).setCell ⟨w.heap.size + 1 + 1, 4, none⟩ (.slice A11 n11 c11)).setCell ⟨w.heap.size + 1 + 1, 5, none⟩ (.slice D11 m11 e11)) = X7 at hg hB ⊢
  clear hX
  replace h0 := h0.kept b9 (by simp [notInt]) hg
  replace h1 := h1.kept b9 (by simp [notInt]) hg
  replace h2 := h2.kept b9 (by simp [notInt]) hg
  replace h3 := h3.kept b9 (by simp [notInt]) hg
  replace h4 := h4.kept b9 (by simp [notInt]) hg
  replace h5 := h5.kept b9 (by simp [notInt]) hg
  replace g9 := g9.kept b9 (by simp [notInt]) hg
  replace g10 := g10.kept b9 (by simp [notInt]) hg
  replace b0 := b0.other hg (by omega)
  replace b1 := b1.other hg (by omega)
  replace b9 := hB
  replace H0 := below_only H0 hg (by omega) H0.size
  clear hg hB
  refine hK.out _ _ (b0.and6 (b1.all6)) (fun hHeld => ?_)
  clear hK K
  (try simp only [getElem_toArray, getElem_cons_succ, getElem_cons_zero, Act.put, setIfInBounds_toArray, set_cons_zero, set_cons_succ])
  refine tk 9 ?_ rfl (by kernel_rfl) (by kernel_rfl) (by kernel_rfl) (fun _ _ _ h => h) (by rfl) ?_ (by assumption) ?_
  rotate_left
  · (intro w hSw; (try dsimp only at hSw); go_simp; (try with_reducible rfl))
  (try simp only [getElem_toArray, getElem_cons_succ, getElem_cons_zero, Act.put, setIfInBounds_toArray, set_cons_zero, set_cons_succ])
  refine wpAnyH_done (by kernel_rfl) ?_ _
  refine NoPanic.normal ?_
  go_wp2_with fail
  refine bodyPost_ret (ret_pointb_b rfl rfl b9) rfl ?_
  exact ⟨_, _, _, _, _, _, _, _, _, _, _, _, _, _, rfl, g9, g10, H0⟩
set_option maxRecDepth 100000 in
set_option maxHeartbeats 4000000 in
theorem lparallel_v (h0 : NI w s0 (.slice A0 n0 c0) z0 L) (h1 : NI w s1 (.slice A1 n1 c1) z1 L) (h2 : NI w s2 (.slice A2 n2 c2) z2 L) (v0 : VL z0 z1 z2) (h3 : NI w s3 (.slice A3 n3 c3) z3 L) (h4 : NI w s4 (.slice A4 n4 c4) z4 L) (h5 : NI w s5 (.slice A5 n5 c5) z5 L) (v1 : VL z3 z4 z5) (hk : decide (z0 * z4 - z1 * z3 = 0) = b) (hL : L ≤ 10000) :
    Calls Tryz.prog 47 #[.agg #[.bool s0, .slice A0 n0 c0, .bool s1, .slice A1 n1 c1, .bool s2, .slice A2 n2 c2], .agg #[.bool s3, .slice A3 n3 c3, .bool s4, .slice A4 n4 c4, .bool s5, .slice A5 n5 c5]] w fun e w' => e = .returned (.bool b) ∧ Below w.heap.size w w' := by
  have V0 := Lib.hid v0
  clear v0
  have V1 := Lib.hid v1
  clear v1
  by_cases hd : z0 * z4 - z1 * z3 = 0
  · rw [decide_eq_true hd] at hk
    subst hk
    have HS : Hid ((z0 * z4 - z1 * z3).sign = 0) := Lib.hid (by rw [hd]; rfl)
    clear hd
    go_enter Tryz.func47, Tryz.ntmps47
    go_wp2_with fail
    obtain ⟨W0, hW, b0, b1, hbW, hszW0⟩ := boxes2 w #[.bool s0, .slice A0 n0 c0, .bool s1, .slice A1 n1 c1, .bool s2, .slice A2 n2 c2] #[.bool s3, .slice A3 n3 c3, .bool s4, .slice A4 n4 c4, .bool s5, .slice A5 n5 c5] 30 30
    rw [hW]
    clear hW
    replace h0 := h0.below hbW
    replace h1 := h1.below hbW
    replace h2 := h2.below hbW
    replace h3 := h3.below hbW
    replace h4 := h4.below hbW
    replace h5 := h5.below hbW
    have H0 := hbW
    clear hbW
    obtain ⟨cb00, cb01, cb02, cb03, cb04, cb05⟩ := b0.cells6
    obtain ⟨cb10, cb11, cb12, cb13, cb14, cb15⟩ := b1.cells6
    go_wp2_with fail
    clear cb00 cb01 cb02 cb03 cb04 cb05 cb10 cb11 cb12 cb13 cb14 cb15
    refine (ldet_v h0.ri h1.ri h3.ri h4.ri (by omega)).mono ?_
    rintro e w1 ⟨s6, A6, n6, c6, rfl, g6, hb⟩
    replace h0 := h0.below hb
    replace h1 := h1.below hb
    replace h2 := h2.below hb
    replace h3 := h3.below hb
    replace h4 := h4.below hb
    replace h5 := h5.below hb
    replace b0 := b0.below hb
    replace b1 := b1.below hb
    replace H0 := H0.trans (hb.mono H0.size)
    clear hb
    go_wp2_with fail
    refine (isign_is g6.ri HS.out).mono ?_
    rintro e w2 ⟨rfl, hb⟩
    replace h0 := h0.below hb
    replace h1 := h1.below hb
    replace h2 := h2.below hb
    replace h3 := h3.below hb
    replace h4 := h4.below hb
    replace h5 := h5.below hb
    replace g6 := g6.below hb
    replace b0 := b0.below hb
    replace b1 := b1.below hb
    replace H0 := H0.trans (hb.mono H0.size)
    clear hb
    obtain ⟨cb00, cb01, cb02, cb03, cb04, cb05⟩ := b0.cells6
    obtain ⟨cb10, cb11, cb12, cb13, cb14, cb15⟩ := b1.cells6
    go_wp2_with fail
    clear cb00 cb01 cb02 cb03 cb04 cb05 cb10 cb11 cb12 cb13 cb14 cb15
    refine (lboth_v h0 h1 h2 V0.out h3 h4 h5 V1.out (by omega)).mono ?_
    rintro e w3 ⟨rfl, hb⟩
    replace h0 := h0.below hb
    replace h1 := h1.below hb
    replace h2 := h2.below hb
    replace h3 := h3.below hb
    replace h4 := h4.below hb
    replace h5 := h5.below hb
    replace g6 := g6.below hb
    replace b0 := b0.below hb
    replace b1 := b1.below hb
    replace H0 := H0.trans (hb.mono H0.size)
    clear hb
    go_wp2_with fail
    go_returns
    exact ⟨rfl, H0⟩
  · rw [decide_eq_false hd] at hk
    subst hk
    obtain ⟨ks, hks⟩ : ∃ k, (z0 * z4 - z1 * z3).sign = k := ⟨_, rfl⟩
    have hk1 : ((ks : Int) == 0) = false := by rw [beq_eq_false_iff_ne]; rintro rfl; exact hd ((sign0_iff _).1 hks)
    have HS := Lib.hid hks
    clear hd hks
    go_enter Tryz.func47, Tryz.ntmps47
    go_wp2_with fail
    obtain ⟨W0, hW, b0, b1, hbW, hszW0⟩ := boxes2 w #[.bool s0, .slice A0 n0 c0, .bool s1, .slice A1 n1 c1, .bool s2, .slice A2 n2 c2] #[.bool s3, .slice A3 n3 c3, .bool s4, .slice A4 n4 c4, .bool s5, .slice A5 n5 c5] 30 30
    rw [hW]
    clear hW
    replace h0 := h0.below hbW
    replace h1 := h1.below hbW
    replace h2 := h2.below hbW
    replace h3 := h3.below hbW
    replace h4 := h4.below hbW
    replace h5 := h5.below hbW
    have H0 := hbW
    clear hbW
    obtain ⟨cb00, cb01, cb02, cb03, cb04, cb05⟩ := b0.cells6
    obtain ⟨cb10, cb11, cb12, cb13, cb14, cb15⟩ := b1.cells6
    go_wp2_with fail
    clear cb00 cb01 cb02 cb03 cb04 cb05 cb10 cb11 cb12 cb13 cb14 cb15
    refine (ldet_v h0.ri h1.ri h3.ri h4.ri (by omega)).mono ?_
    rintro e w1 ⟨s6, A6, n6, c6, rfl, g6, hb⟩
    replace h0 := h0.below hb
    replace h1 := h1.below hb
    replace h2 := h2.below hb
    replace h3 := h3.below hb
    replace h4 := h4.below hb
    replace h5 := h5.below hb
    replace b0 := b0.below hb
    replace b1 := b1.below hb
    replace H0 := H0.trans (hb.mono H0.size)
    clear hb
    go_wp2_with fail
    refine (isign_is g6.ri HS.out).mono ?_
    rintro e w2 ⟨rfl, hb⟩
    replace h0 := h0.below hb
    replace h1 := h1.below hb
    replace h2 := h2.below hb
    replace h3 := h3.below hb
    replace h4 := h4.below hb
    replace h5 := h5.below hb
    replace g6 := g6.below hb
    replace b0 := b0.below hb
    replace b1 := b1.below hb
    replace H0 := H0.trans (hb.mono H0.size)
    clear hb
    obtain ⟨cb00, cb01, cb02, cb03, cb04, cb05⟩ := b0.cells6
    obtain ⟨cb10, cb11, cb12, cb13, cb14, cb15⟩ := b1.cells6
    go_wp2_with fail
    go_returns
    exact ⟨rfl, H0⟩
end
end Go.Proofs.YtancgkmkbgkncaaGreat
namespace Go.Proofs.YtancgkmkbgkncaaGreat
open List (getElem_toArray getElem_cons_succ getElem_cons_zero setIfInBounds_toArray set_cons_zero set_cons_succ)
open Go.RowKit

section
variable {A0 A1 A2 A3 A4 A5 A6 A7 A8 A9 A10 A11 A12 A13 D0 D1 D2 D3 D4 D5 D6 D7 D8 D9 D10 D11 D12 D13 : Option Addr} {n0 n1 n2 n3 n4 n5 n6 n7 n8 n9 n10 n11 n12 n13 c0 c1 c2 c3 c4 c5 c6 c7 c8 c9 c10 c11 c12 c13 m0 m1 m2 m3 m4 m5 m6 m7 m8 m9 m10 m11 m12 m13 e0 e1 e2 e3 e4 e5 e6 e7 e8 e9 e10 e11 e12 e13 : Nat} {s0 s1 s2 s3 s4 s5 s6 s7 s8 s9 s10 s11 s12 s13 : Bool} {q0 q1 q2 q3 q4 q5 q6 q7 : Rat} {z0 z1 z2 z3 z4 z5 z6 z7 z8 z9 z10 z11 : Int} {L L0 L1 x y : Nat} {k : Int} {b : Bool} {w : World}
set_option maxRecDepth 100000 in
set_option maxHeartbeats 4000000 in
theorem lcompare_v (h0 : NI w s0 (.slice A0 n0 c0) z0 L) (h1 : NI w s1 (.slice A1 n1 c1) z1 L) (h2 : NI w s2 (.slice A2 n2 c2) z2 L) (v0 : VL z0 z1 z2) (h3 : NI w s3 (.slice A3 n3 c3) z3 L) (h4 : NI w s4 (.slice A4 n4 c4) z4 L) (h5 : NI w s5 (.slice A5 n5 c5) z5 L) (v1 : VL z3 z4 z5) (hk : cmp3 z0 z1 z2 z3 z4 z5 = k) (hL : L ≤ 10000) :
    Calls Tryz.prog 49 #[.agg #[.bool s0, .slice A0 n0 c0, .bool s1, .slice A1 n1 c1, .bool s2, .slice A2 n2 c2], .agg #[.bool s3, .slice A3 n3 c3, .bool s4, .slice A4 n4 c4, .bool s5, .slice A5 n5 c5]] w fun e w' => e = .returned (.int .i64 k) ∧ Below w.heap.size w w' := by
  have V0 := Lib.hid v0
  clear v0
  have V1 := Lib.hid v1
  clear v1
  have HK := Lib.hid hk
  clear hk
  go_enter Tryz.func49, Tryz.ntmps49
  go_wp2_with fail
  obtain ⟨W0, hW, b0, b1, hbW, hszW0⟩ := boxes2 w #[.bool s0, .slice A0 n0 c0, .bool s1, .slice A1 n1 c1, .bool s2, .slice A2 n2 c2] #[.bool s3, .slice A3 n3 c3, .bool s4, .slice A4 n4 c4, .bool s5, .slice A5 n5 c5] 30 30
  rw [hW]
  clear hW
  replace h0 := h0.below hbW
  replace h1 := h1.below hbW
  replace h2 := h2.below hbW
  replace h3 := h3.below hbW
  replace h4 := h4.below hbW
  replace h5 := h5.below hbW
  have H0 := hbW
  clear hbW
  obtain ⟨cb00, cb01, cb02, cb03, cb04, cb05⟩ := b0.cells6
  obtain ⟨cb10, cb11, cb12, cb13, cb14, cb15⟩ := b1.cells6
  go_wp2_with fail
  clear cb00 cb01 cb02 cb03 cb04 cb05 cb10 cb11 cb12 cb13 cb14 cb15
  refine (lboth_v h0 h1 h2 V0.out h3 h4 h5 V1.out (by omega)).mono ?_
  rintro e w1 ⟨rfl, hb⟩
  replace h0 := h0.below hb
  replace h1 := h1.below hb
  replace h2 := h2.below hb
  replace h3 := h3.below hb
  replace h4 := h4.below hb
  replace h5 := h5.below hb
  replace b0 := b0.below hb
  replace b1 := b1.below hb
  replace H0 := H0.trans (hb.mono H0.size)
  clear hb
  obtain ⟨cb00, cb01, cb02, cb03, cb04, cb05⟩ := b0.cells6
  obtain ⟨cb10, cb11, cb12, cb13, cb14, cb15⟩ := b1.cells6
  go_wp2_with fail
  clear cb00 cb01 cb02 cb03 cb04 cb05 cb10 cb11 cb12 cb13 cb14 cb15
  have hD := drawn_below w1
  replace h0 := h0.below hD
  replace h1 := h1.below hD
  replace h2 := h2.below hD
  replace h3 := h3.below hD
  replace h4 := h4.below hD
  replace h5 := h5.below hD
  replace b0 := b0.below hD
  replace b1 := b1.below hD
  replace H0 := H0.trans (hD.mono H0.size)
  clear hD
  refine wp_region_noPanic ?_
  refine wp_region_held_drew (S := (fun V => V.cell? ⟨w.heap.size, 0, none⟩ = some (.bool s0) ∧ V.cell? ⟨w.heap.size, 1, none⟩ = some (.slice A0 n0 c0) ∧ V.cell? ⟨w.heap.size, 2, none⟩ = some (.bool s1) ∧ V.cell? ⟨w.heap.size, 3, none⟩ = some (.slice A1 n1 c1) ∧ V.cell? ⟨w.heap.size, 4, none⟩ = some (.bool s2) ∧ V.cell? ⟨w.heap.size, 5, none⟩ = some (.slice A2 n2 c2) ∧ V.cell? ⟨w.heap.size + 1, 0, none⟩ = some (.bool s3) ∧ V.cell? ⟨w.heap.size + 1, 1, none⟩ = some (.slice A3 n3 c3) ∧ V.cell? ⟨w.heap.size + 1, 2, none⟩ = some (.bool s4) ∧ V.cell? ⟨w.heap.size + 1, 3, none⟩ = some (.slice A4 n4 c4) ∧ V.cell? ⟨w.heap.size + 1, 4, none⟩ = some (.bool s5) ∧ V.cell? ⟨w.heap.size + 1, 5, none⟩ = some (.slice A5 n5 c5))) (by kernel_rfl) (b0.and6 (b1.all6)) (fun hHeld => ?_)
  generalize w1.drew = v2 at H0 hHeld h0 h1 h2 h3 h4 h5 b0 b1 ⊢
  refine tk 0 ?_ rfl (by kernel_rfl) (by kernel_rfl) (by kernel_rfl) (fun _ _ _ h => h) (by rfl) ?_ (by assumption) ?_
  rotate_left
  · (intro w hSw; (try dsimp only at hSw); go_simp; (try with_reducible rfl))
  (try simp only [getElem_toArray, getElem_cons_zero, Act.put, setIfInBounds_toArray, set_cons_zero, set_cons_succ])
  refine tk 2 ?_ rfl (by kernel_rfl) (by kernel_rfl) (by kernel_rfl) (fun _ _ _ h => h) (by rfl) ?_ (by assumption) ?_
  rotate_left
  · (intro w hSw; (try dsimp only at hSw); go_simp; (try with_reducible rfl))
  (try simp only [getElem_toArray, getElem_cons_succ, getElem_cons_zero, Act.put, setIfInBounds_toArray, set_cons_zero, set_cons_succ])
  refine rd1 1 (by kernel_rfl) rfl (fun K hK => ?_)
  go_simp
  go_at_call 82
  refine (lcoef_v).mono ?_
  rintro e w3 ⟨rfl, hb⟩
  replace h0 := h0.below hb
  replace h1 := h1.below hb
  replace h2 := h2.below hb
  replace h3 := h3.below hb
  replace h4 := h4.below hb
  replace h5 := h5.below hb
  replace b0 := b0.below hb
  replace b1 := b1.below hb
  replace H0 := H0.trans (hb.mono H0.size)
  clear hb
  go_wp2_with fail
  refine hK.out _ _ (b0.and6 (b1.all6)) (fun hHeld => ?_)
  clear hK K
  (try simp only [getElem_toArray, getElem_cons_succ, getElem_cons_zero, Act.put, setIfInBounds_toArray, set_cons_zero, set_cons_succ])
  refine rd1 3 (by kernel_rfl) rfl (fun K hK => ?_)
  go_simp
  go_at_call 82
  refine (lcoef_v).mono ?_
  rintro e w4 ⟨rfl, hb⟩
  replace h0 := h0.below hb
  replace h1 := h1.below hb
  replace h2 := h2.below hb
  replace h3 := h3.below hb
  replace h4 := h4.below hb
  replace h5 := h5.below hb
  replace b0 := b0.below hb
  replace b1 := b1.below hb
  replace H0 := H0.trans (hb.mono H0.size)
  clear hb
  go_wp2_with fail
  refine hK.out _ _ (b0.and6 (b1.all6)) (fun hHeld => ?_)
  clear hK K
  (try simp only [getElem_toArray, getElem_cons_succ, getElem_cons_zero, Act.put, setIfInBounds_toArray, set_cons_zero, set_cons_succ])
  refine rd1 4 (by kernel_rfl) rfl (fun K hK => ?_)
  go_simp
  go_at_call 100
  refine (lcmp_v h0.ri h1.ri h2.ri h3.ri h4.ri h5.ri HK.out).mono ?_
  rintro e w5 ⟨rfl, hb⟩
  replace h0 := h0.below hb
  replace h1 := h1.below hb
  replace h2 := h2.below hb
  replace h3 := h3.below hb
  replace h4 := h4.below hb
  replace h5 := h5.below hb
  replace b0 := b0.below hb
  replace b1 := b1.below hb
  replace H0 := H0.trans (hb.mono H0.size)
  clear hb
  go_wp2_with fail
  refine hK.out _ _ (b0.and6 (b1.all6)) (fun hHeld => ?_)
  clear hK K
  (try simp only [getElem_toArray, getElem_cons_succ, getElem_cons_zero, Act.put, setIfInBounds_toArray, set_cons_zero, set_cons_succ])
  refine tk 5 ?_ rfl (by kernel_rfl) (by kernel_rfl) (by kernel_rfl) (fun _ _ _ h => h) (by rfl) ?_ (by assumption) ?_
  rotate_left
  · (intro w hSw; (try dsimp only at hSw); go_simp; (try with_reducible rfl))
  (try simp only [getElem_toArray, getElem_cons_succ, getElem_cons_zero, Act.put, setIfInBounds_toArray, set_cons_zero, set_cons_succ])
  refine wpAnyH_done (by kernel_rfl) ?_ _
  refine NoPanic.normal ?_
  go_wp2_with fail
  go_returns
  exact ⟨rfl, H0⟩
end
end Go.Proofs.YtancgkmkbgkncaaGreat
namespace Go.Proofs.YtancgkmkbgkncaaGreat
open List (getElem_toArray getElem_cons_succ getElem_cons_zero setIfInBounds_toArray set_cons_zero set_cons_succ)
open Go.RowKit

section
variable {A0 A1 A2 A3 A4 A5 A6 A7 A8 A9 A10 A11 A12 A13 D0 D1 D2 D3 D4 D5 D6 D7 D8 D9 D10 D11 D12 D13 : Option Addr} {n0 n1 n2 n3 n4 n5 n6 n7 n8 n9 n10 n11 n12 n13 c0 c1 c2 c3 c4 c5 c6 c7 c8 c9 c10 c11 c12 c13 m0 m1 m2 m3 m4 m5 m6 m7 m8 m9 m10 m11 m12 m13 e0 e1 e2 e3 e4 e5 e6 e7 e8 e9 e10 e11 e12 e13 : Nat} {s0 s1 s2 s3 s4 s5 s6 s7 s8 s9 s10 s11 s12 s13 : Bool} {q0 q1 q2 q3 q4 q5 q6 q7 : Rat} {z0 z1 z2 z3 z4 z5 z6 z7 z8 z9 z10 z11 : Int} {L L0 L1 x y : Nat} {k : Int} {b : Bool} {w : World}
/-- The zero value, digit by digit. -/
def ZO (w : World) (s : Bool) (v u : Value) : Prop := s = false ∧ Raw w v [] ∧ Raw w u []
theorem ZO.below {s : Bool} {w' : World} {v u : Value} (h : ZO w s v u) (hb : Below w.heap.size w w') : ZO w' s v u := ⟨h.1, h.2.1.below hb, h.2.2.below hb⟩
theorem ZO.kept {s : Bool} {w' : World} {v u : Value} {g : Nat} {cs : Array Value} {t : TypeId} (h : ZO w s v u) (hb : Box w g cs t) (hc : cs.all notInt = true) (hg : w.grownBy w' (some g)) : ZO w' s v u := ⟨h.1, Raw.keepBut h.2.1 hg (Raw.apart h.2.1 hb hc), Raw.keepBut h.2.2 hg (Raw.apart h.2.2 hb hc)⟩
theorem zo_z (w : World) : ZO w false (.slice none 0 0) (.slice none 0 0) := ⟨rfl, raw_nil _ _, raw_nil _ _⟩
theorem sameq_zo (h : ZO w s0 (.slice A0 n0 c0) (.slice D0 m0 e0)) :
    Calls Tryz.prog 24 #[.agg #[.bool s0, .slice A0 n0 c0, .slice D0 m0 e0], .agg #[.bool false, .slice none 0 0, .slice none 0 0]] w fun e w' => e = .returned (.bool true) ∧ Below w.heap.size w w' := by
  obtain ⟨rfl, h1, h2⟩ := h
  refine (sameq_r h1 h2 (raw_nil none 0) (raw_nil none 0)).mono ?_
  rintro e w' ⟨rfl, h3⟩
  exact ⟨by simp, h3⟩
theorem lmeet_zo (h0 : NI w s0 (.slice A0 n0 c0) z0 L) (h1 : NI w s1 (.slice A1 n1 c1) z1 L) (h2 : NI w s2 (.slice A2 n2 c2) z2 L) (v0 : VL z0 z1 z2) (h3 : NI w s3 (.slice A3 n3 c3) z3 L) (h4 : NI w s4 (.slice A4 n4 c4) z4 L) (h5 : NI w s5 (.slice A5 n5 c5) z5 L) (v1 : VL z3 z4 z5) (hz : z0 * z4 - z1 * z3 = 0) (hL : L ≤ 10000) :
    Calls Tryz.prog 41 #[.agg #[.bool s0, .slice A0 n0 c0, .bool s1, .slice A1 n1 c1, .bool s2, .slice A2 n2 c2], .agg #[.bool s3, .slice A3 n3 c3, .bool s4, .slice A4 n4 c4, .bool s5, .slice A5 n5 c5]] w fun e w' => ∃ s10 A10 n10 c10 D10 m10 e10 s11 A11 n11 c11 D11 m11 e11, e = .returned (.tuple #[.agg #[.bool s10, .slice A10 n10 c10, .slice D10 m10 e10, .bool s11, .slice A11 n11 c11, .slice D11 m11 e11], .bool false]) ∧ ZO w' s10 (.slice A10 n10 c10) (.slice D10 m10 e10) ∧ ZO w' s11 (.slice A11 n11 c11) (.slice D11 m11 e11) ∧ Below w.heap.size w w' := by
  refine (lmeet_z h0 h1 h2 v0 h3 h4 h5 v1 hz hL).mono ?_
  rintro e w' ⟨h1, h2⟩
  exact ⟨_, _, _, _, _, _, _, _, _, _, _, _, _, _, h1, zo_z _, zo_z _, h2⟩
end
end Go.Proofs.YtancgkmkbgkncaaGreat
