/-
  PointAngles.
-/
import Derived.Test.YtlpgbflajcfgpaaGreatDoorPtR
import Derived.Test.YtlpgbflajcfgpaaGreatDoorPtK
import Derived.Test.YtlpgbflajcfgpaaGreatDoorX1
import Derived.Deep.Cut
namespace Go.Proofs.YtlpgbflajcfgpaaGreatDoor
open Go.RowKit

section
variable {A0 A1 A2 A3 A4 A5 A6 A7 D0 D1 D2 D3 D4 D5 D6 D7 : Option Addr} {n0 n1 n2 n3 n4 n5 n6 n7 c0 c1 c2 c3 c4 c5 c6 c7 m0 m1 m2 m3 m4 m5 m6 m7 e0 e1 e2 e3 e4 e5 e6 e7 : Nat} {s0 s1 s2 s3 s4 s5 s6 s7 : Bool} {w : World}
theorem sgn3 (d : Int) : (d.sign = 1 ∧ 0 < d) ∨ (d.sign = 0 ∧ d = 0) ∨ (d.sign = -1 ∧ d < 0) := by
  rcases Int.lt_trichotomy d 0 with h | h | h
  · exact .inr (.inr ⟨Int.sign_eq_neg_one_of_neg h, h⟩)
  · subst h; exact .inr (.inl ⟨rfl, rfl⟩)
  · exact .inl ⟨Int.sign_eq_one_of_pos h, h⟩
theorem part_pos (r : Nat) : rsg (mkRat (1 + (r : Int)) 4) = 1 := by
  rw [rsg_mk (by decide)]; exact Int.sign_eq_one_of_pos (by omega)
theorem wrap1 {r : Nat} (hr : r < 9) : IntKind.i64.wrap (1 + (r : Int)) = 1 + (r : Int) := by simp [IntKind.wrap, IntKind.bits, IntKind.signed]; omega
theorem sgn_swap (a b : Int) : (b - a).sign = -(a - b).sign := by rw [← Int.sign_neg]; congr 1; omega
theorem prim_eq (a b c d : Int) (h : SV a b) (h' : SV c d) (hn : ¬ (a = 0 ∧ b = 0)) (hn' : ¬ (c = 0 ∧ d = 0)) :
    ((angI a b c d : Int) == 0) = ((cmpQ (mkRat ((a : Rat).num * ((b : Rat).den : Int)) (Nat.gcd ((a : Rat).num * ((b : Rat).den : Int)).natAbs ((b : Rat).num * ((a : Rat).den : Int)).natAbs)) (mkRat ((b : Rat).num * ((a : Rat).den : Int)) (Nat.gcd ((a : Rat).num * ((b : Rat).den : Int)).natAbs ((b : Rat).num * ((a : Rat).den : Int)).natAbs)) (mkRat ((c : Rat).num * ((d : Rat).den : Int)) (Nat.gcd ((c : Rat).num * ((d : Rat).den : Int)).natAbs ((d : Rat).num * ((c : Rat).den : Int)).natAbs)) (mkRat ((d : Rat).num * ((c : Rat).den : Int)) (Nat.gcd ((c : Rat).num * ((d : Rat).den : Int)).natAbs ((d : Rat).num * ((c : Rat).den : Int)).natAbs)) : Int) == 0) := by
  have e : ∀ z : Int, (z : Rat).num = z ∧ (z : Rat).den = 1 := fun z => ⟨rfl, rfl⟩
  rw [(e a).1, (e a).2, (e b).1, (e b).2, (e c).1, (e c).2, (e d).1, (e d).2]
  have g1 : Nat.gcd a.natAbs b.natAbs ≠ 0 := fun h0 => hn ⟨by have := Nat.eq_zero_of_gcd_eq_zero_left h0; omega, by have := Nat.eq_zero_of_gcd_eq_zero_right h0; omega⟩
  have g2 : Nat.gcd c.natAbs d.natAbs ≠ 0 := fun h0 => hn' ⟨by have := Nat.eq_zero_of_gcd_eq_zero_left h0; omega, by have := Nat.eq_zero_of_gcd_eq_zero_right h0; omega⟩
  have hp := prim_ang h h' hn hn'
  rw [show ((1 : Nat) : Int) = 1 from rfl, Int.mul_one, Int.mul_one, Int.mul_one, Int.mul_one]
  have h0 : ∀ p q : Rat, rsg (p - q) = 0 ↔ p = q := fun p q => by rw [rsg_zero_iff]; constructor <;> intro k <;> grind
  rw [Bool.eq_iff_iff, beq_iff_eq, beq_iff_eq, ← decide_eq_true_iff (p := angI a b c d = 0), hp]
  unfold cmpQ
  simp only [Bool.and_eq_true, decide_eq_true_eq]
  rw [← Rat.mkRat_eq_iff g1 g2, ← Rat.mkRat_eq_iff g1 g2]
  constructor
  · rintro ⟨k1, k2⟩
    rw [if_pos ((h0 _ _).2 k1)]; exact (h0 _ _).2 k2
  · intro k
    split at k
    · rename_i k1; exact ⟨(h0 _ _).1 k1, (h0 _ _).1 k⟩
    · rename_i k1; exact absurd k k1
theorem ang_zero {x y : Int} (h : ¬ (x = 0 ∧ y = 0)) : angQ 0 0 (x : Rat) (y : Rat) = -1 := by
  rw [show (0 : Rat) = ((0 : Int) : Rat) from rfl, angQ_int]
  unfold angI hfI
  rw [if_pos (show (0 : Int).sign = 0 ∧ (0 : Int).sign = 0 from ⟨rfl, rfl⟩)]
  have hn : ¬ (x.sign = 0 ∧ y.sign = 0) := fun k => h ⟨Int.sign_eq_zero_iff_zero.1 k.1, Int.sign_eq_zero_iff_zero.1 k.2⟩
  rw [if_neg hn]
  split <;> rw [if_neg (by decide), if_pos (by decide)]
theorem ang_zero0 : angQ 0 0 0 0 = 0 := by
  rw [show (0 : Rat) = ((0 : Int) : Rat) from rfl, angQ_int]; decide
theorem ang_up {a b c d : Int} (h : 0 < b.sign) (h' : 0 < d.sign) : angQ (a : Rat) (b : Rat) (c : Rat) (d : Rat) = -rsg ((a : Rat) * (d : Rat) - (b : Rat) * (c : Rat)) := by
  unfold angQ
  have e : ∀ x y : Int, 0 < y.sign → hfQ (x : Rat) (y : Rat) = 1 := fun x y hy => by
    rw [hfQ_int]; unfold hfI; rw [if_neg (by omega), if_pos (.inl hy)]
  rw [e a b h, e c d h', if_pos rfl, ← rsg_opp]
  congr 1; grind
set_option maxRecDepth 100000 in
set_option maxHeartbeats 60000000 in
theorem pointangles_any {v : Value} (HI : Ints w v) (htab : Lib.TabIs Tryz.prog w "internal/strconv.uint64pow10" .u64 Lib.pow10Tab) :
    Calls Tryz.prog 6 #[v] w fun e w' => e = .returned (.bool true) ∧ Below w.heap.size w w' := by
  have HK := Lib.hid (fun (W : World) (h : Below w.heap.size w W) => known4_any (Go.Joins.tab_stays (show Tryz.prog.globalNamed "internal/strconv.uint64pow10" = some 5 by kernel_rfl) htab h (Nat.le_refl _)))
  clear htab
  go_enter Tryz.func6, Tryz.ntmps6
  go_wp2_with fail
  refine (new_any HI).mono ?_
  rintro e w1 ⟨rfl, hT, H0, hsz⟩
  have hlt : w.heap.size < w1.heap.size := by omega
  clear hsz HI
  go_wp2_with fail
  refine (tv_v hT hlt).mono ?_
  rintro e w2 ⟨x0, y0, s10, A10, n10, c10, D10, m10, e10, s11, A11, n11, c11, D11, m11, e11, rfl, hv0, hn0, p0, p1, hT', hg⟩
  replace hlt := Nat.lt_of_lt_of_le hlt hg.size
  replace H0 := H0.grown hg H0.size (by rintro k hk; injection hk with hk; omega)
  clear hT
  have hT := hT'
  clear hT' hg
  go_wp2_with fail
  refine (gtop_v p0 p1 (by omega)).mono ?_
  rintro e w3 ⟨s0, A0, n0, c0, D0, m0, e0, s1, A1, n1, c1, D1, m1, e1, rfl, f0, f1, hb⟩
  replace p0 := p0.below hb
  replace p1 := p1.below hb
  replace hT := hT.keep hb hlt
  replace hlt := Nat.lt_of_lt_of_le hlt hb.size
  replace H0 := H0.trans (hb.mono H0.size)
  clear hb
  clear p0
  clear p1
  go_wp2_with fail
  refine (tv_v hT hlt).mono ?_
  rintro e w4 ⟨x1, y1, s10, A10, n10, c10, D10, m10, e10, s11, A11, n11, c11, D11, m11, e11, rfl, hv1, hn1, p0, p1, hT', hg⟩
  replace f0 := f0.tape hT hg
  replace f1 := f1.tape hT hg
  replace hlt := Nat.lt_of_lt_of_le hlt hg.size
  replace H0 := H0.grown hg H0.size (by rintro k hk; injection hk with hk; omega)
  clear hT
  have hT := hT'
  clear hT' hg
  go_wp2_with fail
  refine (gtop_v p0 p1 (by omega)).mono ?_
  rintro e w5 ⟨s2, A2, n2, c2, D2, m2, e2, s3, A3, n3, c3, D3, m3, e3, rfl, f2, f3, hb⟩
  replace f0 := f0.below hb
  replace f1 := f1.below hb
  replace p0 := p0.below hb
  replace p1 := p1.below hb
  replace hT := hT.keep hb hlt
  replace hlt := Nat.lt_of_lt_of_le hlt hb.size
  replace H0 := H0.trans (hb.mono H0.size)
  clear hb
  clear p0
  clear p1
  go_wp2_with fail
  refine (tv_v hT hlt).mono ?_
  rintro e w6 ⟨x2, y2, s10, A10, n10, c10, D10, m10, e10, s11, A11, n11, c11, D11, m11, e11, rfl, hv2, hn2, p0, p1, hT', hg⟩
  replace f0 := f0.tape hT hg
  replace f1 := f1.tape hT hg
  replace f2 := f2.tape hT hg
  replace f3 := f3.tape hT hg
  replace hlt := Nat.lt_of_lt_of_le hlt hg.size
  replace H0 := H0.grown hg H0.size (by rintro k hk; injection hk with hk; omega)
  clear hT
  have hT := hT'
  clear hT' hg
  go_wp2_with fail
  refine (gtop_v p0 p1 (by omega)).mono ?_
  rintro e w7 ⟨s4, A4, n4, c4, D4, m4, e4, s5, A5, n5, c5, D5, m5, e5, rfl, f4, f5, hb⟩
  replace f0 := f0.below hb
  replace f1 := f1.below hb
  replace f2 := f2.below hb
  replace f3 := f3.below hb
  replace p0 := p0.below hb
  replace p1 := p1.below hb
  replace hT := hT.keep hb hlt
  replace hlt := Nat.lt_of_lt_of_le hlt hb.size
  replace H0 := H0.trans (hb.mono H0.size)
  clear hb
  clear p0
  clear p1
  have hl_8 := hlt
  obtain ⟨W8, hW, b0, b1, b2, hbW, hszW8⟩ := boxes3 w7 #[.bool s0, .slice A0 n0 c0, .slice D0 m0 e0, .bool s1, .slice A1 n1 c1, .slice D1 m1 e1] #[.bool s2, .slice A2 n2 c2, .slice D2 m2 e2, .bool s3, .slice A3 n3 c3, .slice D3 m3 e3] #[.bool s4, .slice A4 n4 c4, .slice D4 m4 e4, .bool s5, .slice A5 n5 c5, .slice D5 m5 e5] 29 29 29
  skip
  skip
  replace f0 := f0.below hbW
  replace f1 := f1.below hbW
  replace f2 := f2.below hbW
  replace f3 := f3.below hbW
  replace f4 := f4.below hbW
  replace f5 := f5.below hbW
  replace hT := hT.keep hbW hlt
  replace hlt := Nat.lt_of_lt_of_le hlt hbW.size
  replace H0 := H0.trans (hbW.mono H0.size)
  clear hbW
  have cb00 := b0.cell 0 _ rfl
  have cb01 := b0.cell 1 _ rfl
  have cb02 := b0.cell 2 _ rfl
  have cb03 := b0.cell 3 _ rfl
  have cb04 := b0.cell 4 _ rfl
  have cb05 := b0.cell 5 _ rfl
  have cb10 := b1.cell 0 _ rfl
  have cb11 := b1.cell 1 _ rfl
  have cb12 := b1.cell 2 _ rfl
  have cb13 := b1.cell 3 _ rfl
  have cb14 := b1.cell 4 _ rfl
  have cb15 := b1.cell 5 _ rfl
  have cb20 := b2.cell 0 _ rfl
  have cb21 := b2.cell 1 _ rfl
  have cb22 := b2.cell 2 _ rfl
  have cb23 := b2.cell 3 _ rfl
  have cb24 := b2.cell 4 _ rfl
  have cb25 := b2.cell 5 _ rfl
  go_wp2_with fail
  clear hW
  clear cb00 cb01 cb02 cb03 cb04 cb05 cb10 cb11 cb12 cb13 cb14 cb15 cb20 cb21 cb22 cb23 cb24 cb25
  obtain ⟨kx, hkx⟩ : ∃ k, angQ (x0 : Rat) (y0 : Rat) (x1 : Rat) (y1 : Rat) = k := ⟨_, rfl⟩
  have Hkx := Lib.hid hkx
  rw [angQ_int, ang_rank hv0 hv1] at hkx
  have Rkx := Lib.hid hkx
  clear hkx
  obtain ⟨ky, hky⟩ : ∃ k, angQ (x1 : Rat) (y1 : Rat) (x2 : Rat) (y2 : Rat) = k := ⟨_, rfl⟩
  have Hky := Lib.hid hky
  rw [angQ_int, ang_rank hv1 hv2] at hky
  have Rky := Lib.hid hky
  clear hky
  obtain ⟨kz, hkz⟩ : ∃ k, angQ (x0 : Rat) (y0 : Rat) (x2 : Rat) (y2 : Rat) = k := ⟨_, rfl⟩
  have Hkz := Lib.hid hkz
  rw [angQ_int, ang_rank hv0 hv2] at hkz
  have Rkz := Lib.hid hkz
  clear hkz
  have Hyx : Hid (angQ (x1 : Rat) (y1 : Rat) (x0 : Rat) (y0 : Rat) = -kx) := Lib.hid (by rw [angQ_int, ang_rank hv1 hv0, sgn_swap, Rkx.out])
  have HV := Lib.hid (And.intro (And.intro hv0 hn0) (And.intro hv1 hn1))
  clear hv0 hv1 hv2 hn0 hn1 hn2
  have hD := drawn_below W8
  replace f0 := f0.below hD
  replace f1 := f1.below hD
  replace f2 := f2.below hD
  replace f3 := f3.below hD
  replace f4 := f4.below hD
  replace f5 := f5.below hD
  replace b0 := b0.below hD
  replace b1 := b1.below hD
  replace b2 := b2.below hD
  replace hT := hT.keep hD hlt
  replace hlt := Nat.lt_of_lt_of_le hlt hD.size
  replace H0 := H0.trans (hD.mono H0.size)
  clear hD
  refine wp_region_noPanic ?_
  refine wp_region_held_drew (S := (fun V => V.cell? ⟨w7.heap.size, 0, none⟩ = some (.bool s0) ∧ V.cell? ⟨w7.heap.size, 1, none⟩ = some (.slice A0 n0 c0) ∧ V.cell? ⟨w7.heap.size, 2, none⟩ = some (.slice D0 m0 e0) ∧ V.cell? ⟨w7.heap.size, 3, none⟩ = some (.bool s1) ∧ V.cell? ⟨w7.heap.size, 4, none⟩ = some (.slice A1 n1 c1) ∧ V.cell? ⟨w7.heap.size, 5, none⟩ = some (.slice D1 m1 e1) ∧ V.cell? ⟨w7.heap.size + 1, 0, none⟩ = some (.bool s2) ∧ V.cell? ⟨w7.heap.size + 1, 1, none⟩ = some (.slice A2 n2 c2) ∧ V.cell? ⟨w7.heap.size + 1, 2, none⟩ = some (.slice D2 m2 e2) ∧ V.cell? ⟨w7.heap.size + 1, 3, none⟩ = some (.bool s3) ∧ V.cell? ⟨w7.heap.size + 1, 4, none⟩ = some (.slice A3 n3 c3) ∧ V.cell? ⟨w7.heap.size + 1, 5, none⟩ = some (.slice D3 m3 e3) ∧ V.cell? ⟨w7.heap.size + 1 + 1, 0, none⟩ = some (.bool s4) ∧ V.cell? ⟨w7.heap.size + 1 + 1, 1, none⟩ = some (.slice A4 n4 c4) ∧ V.cell? ⟨w7.heap.size + 1 + 1, 2, none⟩ = some (.slice D4 m4 e4) ∧ V.cell? ⟨w7.heap.size + 1 + 1, 3, none⟩ = some (.bool s5) ∧ V.cell? ⟨w7.heap.size + 1 + 1, 4, none⟩ = some (.slice A5 n5 c5) ∧ V.cell? ⟨w7.heap.size + 1 + 1, 5, none⟩ = some (.slice D5 m5 e5))) (by kernel_rfl) ⟨b0.cell 0 _ rfl, b0.cell 1 _ rfl, b0.cell 2 _ rfl, b0.cell 3 _ rfl, b0.cell 4 _ rfl, b0.cell 5 _ rfl, b1.cell 0 _ rfl, b1.cell 1 _ rfl, b1.cell 2 _ rfl, b1.cell 3 _ rfl, b1.cell 4 _ rfl, b1.cell 5 _ rfl, b2.cell 0 _ rfl, b2.cell 1 _ rfl, b2.cell 2 _ rfl, b2.cell 3 _ rfl, b2.cell 4 _ rfl, b2.cell 5 _ rfl⟩ (fun hHeld => ?_)
  generalize W8.drew = v9 at H0 hHeld f0 f1 f2 f3 f4 f5 b0 b1 b2 hT hlt ⊢
  refine wpAnyH_take (i := 0) (v := ?_) rfl (by kernel_rfl) (by kernel_rfl) (by kernel_rfl) (fun _ _ _ h => h) (Or.inl ⟨by rfl, ?_⟩) (by assumption) ?_
  rotate_left
  · (intro w hSw; (try dsimp only at hSw); go_simp; (try with_reducible rfl))
  (try simp only [List.getElem_toArray, List.getElem_cons_zero, Act.put, List.setIfInBounds_toArray, List.set_cons_zero, List.set_cons_succ])
  refine wpAnyH_take (i := 1) (v := ?_) rfl (by kernel_rfl) (by kernel_rfl) (by kernel_rfl) (fun _ _ _ h => h) (Or.inl ⟨by rfl, ?_⟩) (by assumption) ?_
  rotate_left
  · (intro w hSw; (try dsimp only at hSw); go_simp; (try with_reducible rfl))
  (try simp only [List.getElem_toArray, List.getElem_cons_succ, List.getElem_cons_zero, Act.put, List.setIfInBounds_toArray, List.set_cons_zero, List.set_cons_succ])
  refine wpAnyH_take (i := 3) (v := ?_) rfl (by kernel_rfl) (by kernel_rfl) (by kernel_rfl) (fun _ _ _ h => h) (Or.inl ⟨by rfl, ?_⟩) (by assumption) ?_
  rotate_left
  · (intro w hSw; (try dsimp only at hSw); go_simp; (try with_reducible rfl))
  (try simp only [List.getElem_toArray, List.getElem_cons_succ, List.getElem_cons_zero, Act.put, List.setIfInBounds_toArray, List.set_cons_zero, List.set_cons_succ])
  refine wpAnyH_take (i := 4) (v := ?_) rfl (by kernel_rfl) (by kernel_rfl) (by kernel_rfl) (fun _ _ _ h => h) (Or.inl ⟨by rfl, ?_⟩) (by assumption) ?_
  rotate_left
  · (intro w hSw; (try dsimp only at hSw); go_simp; (try with_reducible rfl))
  (try simp only [List.getElem_toArray, List.getElem_cons_succ, List.getElem_cons_zero, Act.put, List.setIfInBounds_toArray, List.set_cons_zero, List.set_cons_succ])
  refine wpAnyH_take (i := 6) (v := ?_) rfl (by kernel_rfl) (by kernel_rfl) (by kernel_rfl) (fun _ _ _ h => h) (Or.inl ⟨by rfl, ?_⟩) (by assumption) ?_
  rotate_left
  · (intro w hSw; (try dsimp only at hSw); go_simp; (try with_reducible rfl))
  (try simp only [List.getElem_toArray, List.getElem_cons_succ, List.getElem_cons_zero, Act.put, List.setIfInBounds_toArray, List.set_cons_zero, List.set_cons_succ])
  refine wpAnyH_take (i := 7) (v := ?_) rfl (by kernel_rfl) (by kernel_rfl) (by kernel_rfl) (fun _ _ _ h => h) (Or.inl ⟨by rfl, ?_⟩) (by assumption) ?_
  rotate_left
  · (intro w hSw; (try dsimp only at hSw); go_simp; (try with_reducible rfl))
  (try simp only [List.getElem_toArray, List.getElem_cons_succ, List.getElem_cons_zero, Act.put, List.setIfInBounds_toArray, List.set_cons_zero, List.set_cons_succ])
  refine wpAnyH_ready (rs := [2]) (by kernel_rfl) (by simp) (AllReadyH.cons (o := _) rfl (fun K hK => ?_) AllReadyH.nil)
  go_simp
  go_at_call 41
  refine (pangle_v f0.rq f1.rq f2.rq f3.rq (by omega) (by omega) Hkx.out).mono ?_
  rintro e w10 ⟨rfl, hb⟩
  replace f0 := f0.below hb
  replace f1 := f1.below hb
  replace f2 := f2.below hb
  replace f3 := f3.below hb
  replace f4 := f4.below hb
  replace f5 := f5.below hb
  replace b0 := b0.below hb
  replace b1 := b1.below hb
  replace b2 := b2.below hb
  replace hT := hT.keep hb hlt
  replace hlt := Nat.lt_of_lt_of_le hlt hb.size
  replace H0 := H0.trans (hb.mono H0.size)
  clear hb
  go_wp2_with fail
  refine hK.out _ _ ⟨b0.cell 0 _ rfl, b0.cell 1 _ rfl, b0.cell 2 _ rfl, b0.cell 3 _ rfl, b0.cell 4 _ rfl, b0.cell 5 _ rfl, b1.cell 0 _ rfl, b1.cell 1 _ rfl, b1.cell 2 _ rfl, b1.cell 3 _ rfl, b1.cell 4 _ rfl, b1.cell 5 _ rfl, b2.cell 0 _ rfl, b2.cell 1 _ rfl, b2.cell 2 _ rfl, b2.cell 3 _ rfl, b2.cell 4 _ rfl, b2.cell 5 _ rfl⟩ (fun hHeld => ?_)
  clear hK K
  (try simp only [List.getElem_toArray, List.getElem_cons_succ, List.getElem_cons_zero, Act.put, List.setIfInBounds_toArray, List.set_cons_zero, List.set_cons_succ])
  refine wpAnyH_ready (rs := [5]) (by kernel_rfl) (by simp) (AllReadyH.cons (o := _) rfl (fun K hK => ?_) AllReadyH.nil)
  go_simp
  go_at_call 41
  refine (pangle_v f2.rq f3.rq f4.rq f5.rq (by omega) (by omega) Hky.out).mono ?_
  rintro e w11 ⟨rfl, hb⟩
  replace f0 := f0.below hb
  replace f1 := f1.below hb
  replace f2 := f2.below hb
  replace f3 := f3.below hb
  replace f4 := f4.below hb
  replace f5 := f5.below hb
  replace b0 := b0.below hb
  replace b1 := b1.below hb
  replace b2 := b2.below hb
  replace hT := hT.keep hb hlt
  replace hlt := Nat.lt_of_lt_of_le hlt hb.size
  replace H0 := H0.trans (hb.mono H0.size)
  clear hb
  go_wp2_with fail
  refine hK.out _ _ ⟨b0.cell 0 _ rfl, b0.cell 1 _ rfl, b0.cell 2 _ rfl, b0.cell 3 _ rfl, b0.cell 4 _ rfl, b0.cell 5 _ rfl, b1.cell 0 _ rfl, b1.cell 1 _ rfl, b1.cell 2 _ rfl, b1.cell 3 _ rfl, b1.cell 4 _ rfl, b1.cell 5 _ rfl, b2.cell 0 _ rfl, b2.cell 1 _ rfl, b2.cell 2 _ rfl, b2.cell 3 _ rfl, b2.cell 4 _ rfl, b2.cell 5 _ rfl⟩ (fun hHeld => ?_)
  clear hK K
  (try simp only [List.getElem_toArray, List.getElem_cons_succ, List.getElem_cons_zero, Act.put, List.setIfInBounds_toArray, List.set_cons_zero, List.set_cons_succ])
  refine wpAnyH_ready (rs := [8]) (by kernel_rfl) (by simp) (AllReadyH.cons (o := _) rfl (fun K hK => ?_) AllReadyH.nil)
  go_simp
  go_at_call 41
  refine (pangle_v f0.rq f1.rq f4.rq f5.rq (by omega) (by omega) Hkz.out).mono ?_
  rintro e w12 ⟨rfl, hb⟩
  replace f0 := f0.below hb
  replace f1 := f1.below hb
  replace f2 := f2.below hb
  replace f3 := f3.below hb
  replace f4 := f4.below hb
  replace f5 := f5.below hb
  replace b0 := b0.below hb
  replace b1 := b1.below hb
  replace b2 := b2.below hb
  replace hT := hT.keep hb hlt
  replace hlt := Nat.lt_of_lt_of_le hlt hb.size
  replace H0 := H0.trans (hb.mono H0.size)
  clear hb
  go_wp2_with fail
  refine hK.out _ _ ⟨b0.cell 0 _ rfl, b0.cell 1 _ rfl, b0.cell 2 _ rfl, b0.cell 3 _ rfl, b0.cell 4 _ rfl, b0.cell 5 _ rfl, b1.cell 0 _ rfl, b1.cell 1 _ rfl, b1.cell 2 _ rfl, b1.cell 3 _ rfl, b1.cell 4 _ rfl, b1.cell 5 _ rfl, b2.cell 0 _ rfl, b2.cell 1 _ rfl, b2.cell 2 _ rfl, b2.cell 3 _ rfl, b2.cell 4 _ rfl, b2.cell 5 _ rfl⟩ (fun hHeld => ?_)
  clear hK K
  (try simp only [List.getElem_toArray, List.getElem_cons_succ, List.getElem_cons_zero, Act.put, List.setIfInBounds_toArray, List.set_cons_zero, List.set_cons_succ])
  refine wpAnyH_take (i := 9) (v := ?_) rfl (by kernel_rfl) (by kernel_rfl) (by kernel_rfl) (fun _ _ _ h => h) (Or.inl ⟨by rfl, ?_⟩) (by assumption) ?_
  rotate_left
  · (intro w hSw; (try dsimp only at hSw); go_simp; (try with_reducible rfl))
  (try simp only [List.getElem_toArray, List.getElem_cons_succ, List.getElem_cons_zero, Act.put, List.setIfInBounds_toArray, List.set_cons_zero, List.set_cons_succ])
  refine wpAnyH_take (i := 10) (v := ?_) rfl (by kernel_rfl) (by kernel_rfl) (by kernel_rfl) (fun _ _ _ h => h) (Or.inl ⟨by rfl, ?_⟩) (by assumption) ?_
  rotate_left
  · (intro w hSw; (try dsimp only at hSw); go_simp; (try with_reducible rfl))
  (try simp only [List.getElem_toArray, List.getElem_cons_succ, List.getElem_cons_zero, Act.put, List.setIfInBounds_toArray, List.set_cons_zero, List.set_cons_succ])
  refine wpAnyH_take (i := 11) (v := ?_) rfl (by kernel_rfl) (by kernel_rfl) (by kernel_rfl) (fun _ _ _ h => h) (Or.inl ⟨by rfl, ?_⟩) (by assumption) ?_
  rotate_left
  · (intro w hSw; (try dsimp only at hSw); go_simp; (try with_reducible rfl))
  (try simp only [List.getElem_toArray, List.getElem_cons_succ, List.getElem_cons_zero, Act.put, List.setIfInBounds_toArray, List.set_cons_zero, List.set_cons_succ])
  refine wpAnyH_done (by kernel_rfl) ?_ _
  refine NoPanic.normal ?_
  go_wp2_with fail
  have lt0 := b0.lt
  have lt1 := b1.lt
  have lt2 := b2.lt
  go_cut [73] from 12 (fun s_73 wx => s_73 = .bool false ∧ NQ wx s0 (.slice A0 n0 c0) (.slice D0 m0 e0) (x0 : Rat) 2 ∧ NQ wx s1 (.slice A1 n1 c1) (.slice D1 m1 e1) (y0 : Rat) 2 ∧ NQ wx s2 (.slice A2 n2 c2) (.slice D2 m2 e2) (x1 : Rat) 2 ∧ NQ wx s3 (.slice A3 n3 c3) (.slice D3 m3 e3) (y1 : Rat) 2 ∧ Box wx (w7.heap.size) #[.bool s0, .slice A0 n0 c0, .slice D0 m0 e0, .bool s1, .slice A1 n1 c1, .slice D1 m1 e1] 29 ∧ Box wx (w7.heap.size + 1) #[.bool s2, .slice A2 n2 c2, .slice D2 m2 e2, .bool s3, .slice A3 n3 c3, .slice D3 m3 e3] 29 ∧ Below w.heap.size w wx)
  case first =>
    clear HK HV
    have r1 := sgn3 (rankI x0 y0 - rankI x1 y1)
    have r2 := sgn3 (rankI x1 y1 - rankI x2 y2)
    have r3 := sgn3 (rankI x0 y0 - rankI x2 y2)
    rw [Rkx.out] at r1
    rw [Rky.out] at r2
    rw [Rkz.out] at r3
    clear Rkx Rky Rkz
    rcases r1 with ⟨rfl, r1⟩ | ⟨rfl, r1⟩ | ⟨rfl, r1⟩
    · rcases Decidable.em (0 ≤ ky) with y1_ | y1_
      · have hy1 : decide (0 ≤ ky) = true := decide_eq_true y1_
        have hz2 : decide (kz < 0) = false := decide_eq_false (by rcases r2 with r2 | r2 | r2 <;> omega)
        clear r1 r2 r3
        have Hyx2 : Hid (angQ (x1 : Rat) (y1 : Rat) (x0 : Rat) (y0 : Rat) = -1) := Lib.hid Hyx.out
        clear Hyx
        clear y1_
        have hw9 : IntKind.i64.wrap (-1) = -1 := by decide
        have hD := drawn_below w12
        replace f0 := f0.below hD
        replace f1 := f1.below hD
        replace f2 := f2.below hD
        replace f3 := f3.below hD
        replace f4 := f4.below hD
        replace f5 := f5.below hD
        replace b0 := b0.below hD
        replace b1 := b1.below hD
        replace b2 := b2.below hD
        replace hT := hT.keep hD hlt
        replace hlt := Nat.lt_of_lt_of_le hlt hD.size
        replace H0 := H0.trans (hD.mono H0.size)
        clear hD
        refine wp_region_noPanic ?_
        refine wp_region_held_drew (S := (fun V => V.cell? ⟨w7.heap.size, 0, none⟩ = some (.bool s0) ∧ V.cell? ⟨w7.heap.size, 1, none⟩ = some (.slice A0 n0 c0) ∧ V.cell? ⟨w7.heap.size, 2, none⟩ = some (.slice D0 m0 e0) ∧ V.cell? ⟨w7.heap.size, 3, none⟩ = some (.bool s1) ∧ V.cell? ⟨w7.heap.size, 4, none⟩ = some (.slice A1 n1 c1) ∧ V.cell? ⟨w7.heap.size, 5, none⟩ = some (.slice D1 m1 e1) ∧ V.cell? ⟨w7.heap.size + 1, 0, none⟩ = some (.bool s2) ∧ V.cell? ⟨w7.heap.size + 1, 1, none⟩ = some (.slice A2 n2 c2) ∧ V.cell? ⟨w7.heap.size + 1, 2, none⟩ = some (.slice D2 m2 e2) ∧ V.cell? ⟨w7.heap.size + 1, 3, none⟩ = some (.bool s3) ∧ V.cell? ⟨w7.heap.size + 1, 4, none⟩ = some (.slice A3 n3 c3) ∧ V.cell? ⟨w7.heap.size + 1, 5, none⟩ = some (.slice D3 m3 e3))) (by kernel_rfl) ⟨b0.cell 0 _ rfl, b0.cell 1 _ rfl, b0.cell 2 _ rfl, b0.cell 3 _ rfl, b0.cell 4 _ rfl, b0.cell 5 _ rfl, b1.cell 0 _ rfl, b1.cell 1 _ rfl, b1.cell 2 _ rfl, b1.cell 3 _ rfl, b1.cell 4 _ rfl, b1.cell 5 _ rfl⟩ (fun hHeld => ?_)
        generalize w12.drew = v13 at H0 hHeld f0 f1 f2 f3 f4 f5 b0 b1 b2 hT hlt ⊢
        refine wpAnyH_take (i := 0) (v := ?_) rfl (by kernel_rfl) (by kernel_rfl) (by kernel_rfl) (fun _ _ _ h => h) (Or.inl ⟨by rfl, ?_⟩) (by assumption) ?_
        rotate_left
        · (intro w hSw; (try dsimp only at hSw); go_simp; (try with_reducible rfl))
        (try simp only [List.getElem_toArray, List.getElem_cons_zero, Act.put, List.setIfInBounds_toArray, List.set_cons_zero, List.set_cons_succ])
        refine wpAnyH_take (i := 1) (v := ?_) rfl (by kernel_rfl) (by kernel_rfl) (by kernel_rfl) (fun _ _ _ h => h) (Or.inl ⟨by rfl, ?_⟩) (by assumption) ?_
        rotate_left
        · (intro w hSw; (try dsimp only at hSw); go_simp; (try with_reducible rfl))
        (try simp only [List.getElem_toArray, List.getElem_cons_succ, List.getElem_cons_zero, Act.put, List.setIfInBounds_toArray, List.set_cons_zero, List.set_cons_succ])
        refine wpAnyH_take (i := 3) (v := ?_) rfl (by kernel_rfl) (by kernel_rfl) (by kernel_rfl) (fun _ _ _ h => h) (Or.inl ⟨by rfl, ?_⟩) (by assumption) ?_
        rotate_left
        · (intro w hSw; (try dsimp only at hSw); go_simp; (try with_reducible rfl))
        (try simp only [List.getElem_toArray, List.getElem_cons_succ, List.getElem_cons_zero, Act.put, List.setIfInBounds_toArray, List.set_cons_zero, List.set_cons_succ])
        refine wpAnyH_take (i := 4) (v := ?_) rfl (by kernel_rfl) (by kernel_rfl) (by kernel_rfl) (fun _ _ _ h => h) (Or.inl ⟨by rfl, ?_⟩) (by assumption) ?_
        rotate_left
        · (intro w hSw; (try dsimp only at hSw); go_simp; (try with_reducible rfl))
        (try simp only [List.getElem_toArray, List.getElem_cons_succ, List.getElem_cons_zero, Act.put, List.setIfInBounds_toArray, List.set_cons_zero, List.set_cons_succ])
        refine wpAnyH_ready (rs := [2]) (by kernel_rfl) (by simp) (AllReadyH.cons (o := _) rfl (fun K hK => ?_) AllReadyH.nil)
        go_simp
        go_at_call 41
        refine (pangle_v f2.rq f3.rq f0.rq f1.rq (by omega) (by omega) Hyx2.out).mono ?_
        rintro e w14 ⟨rfl, hb⟩
        replace f0 := f0.below hb
        replace f1 := f1.below hb
        replace f2 := f2.below hb
        replace f3 := f3.below hb
        replace f4 := f4.below hb
        replace f5 := f5.below hb
        replace b0 := b0.below hb
        replace b1 := b1.below hb
        replace b2 := b2.below hb
        replace hT := hT.keep hb hlt
        replace hlt := Nat.lt_of_lt_of_le hlt hb.size
        replace H0 := H0.trans (hb.mono H0.size)
        clear hb
        go_wp2_with fail
        refine hK.out _ _ ⟨b0.cell 0 _ rfl, b0.cell 1 _ rfl, b0.cell 2 _ rfl, b0.cell 3 _ rfl, b0.cell 4 _ rfl, b0.cell 5 _ rfl, b1.cell 0 _ rfl, b1.cell 1 _ rfl, b1.cell 2 _ rfl, b1.cell 3 _ rfl, b1.cell 4 _ rfl, b1.cell 5 _ rfl⟩ (fun hHeld => ?_)
        clear hK K
        (try simp only [List.getElem_toArray, List.getElem_cons_succ, List.getElem_cons_zero, Act.put, List.setIfInBounds_toArray, List.set_cons_zero, List.set_cons_succ])
        refine wpAnyH_take (i := 5) (v := ?_) rfl (by kernel_rfl) (by kernel_rfl) (by kernel_rfl) (fun _ _ _ h => h) (Or.inl ⟨by rfl, ?_⟩) (by assumption) ?_
        rotate_left
        · (intro w hSw; (try dsimp only at hSw); go_simp; (try with_reducible rfl))
        (try simp only [List.getElem_toArray, List.getElem_cons_succ, List.getElem_cons_zero, Act.put, List.setIfInBounds_toArray, List.set_cons_zero, List.set_cons_succ])
        refine wpAnyH_take (i := 6) (v := ?_) rfl (by kernel_rfl) (by kernel_rfl) (by kernel_rfl) (fun _ _ _ h => h) (Or.inl ⟨by rfl, ?_⟩) (by assumption) ?_
        rotate_left
        · (intro w hSw; (try dsimp only at hSw); go_simp; (try with_reducible rfl))
        (try simp only [List.getElem_toArray, List.getElem_cons_succ, List.getElem_cons_zero, Act.put, List.setIfInBounds_toArray, List.set_cons_zero, List.set_cons_succ])
        refine wpAnyH_take (i := 7) (v := ?_) rfl (by kernel_rfl) (by kernel_rfl) (by kernel_rfl) (fun _ _ _ h => h) (Or.inl ⟨by rfl, ?_⟩) (by assumption) ?_
        rotate_left
        · (intro w hSw; (try dsimp only at hSw); go_simp; (try with_reducible rfl))
        (try simp only [List.getElem_toArray, List.getElem_cons_succ, List.getElem_cons_zero, Act.put, List.setIfInBounds_toArray, List.set_cons_zero, List.set_cons_succ])
        refine wpAnyH_take (i := 8) (v := ?_) rfl (by kernel_rfl) (by kernel_rfl) (by kernel_rfl) (fun _ _ _ h => h) (Or.inl ⟨by rfl, ?_⟩) (by assumption) ?_
        rotate_left
        · (intro w hSw; (try dsimp only at hSw); go_simp; (try with_reducible rfl))
        (try simp only [List.getElem_toArray, List.getElem_cons_succ, List.getElem_cons_zero, Act.put, List.setIfInBounds_toArray, List.set_cons_zero, List.set_cons_succ])
        refine wpAnyH_take (i := 9) (v := ?_) rfl (by kernel_rfl) (by kernel_rfl) (by kernel_rfl) (fun _ _ _ h => h) (Or.inl ⟨by rfl, ?_⟩) (by assumption) ?_
        rotate_left
        · (intro w hSw; (try dsimp only at hSw); go_simp; (try with_reducible rfl))
        (try simp only [List.getElem_toArray, List.getElem_cons_succ, List.getElem_cons_zero, Act.put, List.setIfInBounds_toArray, List.set_cons_zero, List.set_cons_succ])
        refine wpAnyH_take (i := 10) (v := undef) rfl (by kernel_rfl) (by kernel_rfl) (by kernel_rfl) (fun _ _ _ h => h) (Or.inr ⟨by rfl, rfl⟩) (by assumption) ?_
        (try simp only [List.getElem_toArray, List.getElem_cons_succ, List.getElem_cons_zero, Act.put, List.setIfInBounds_toArray, List.set_cons_zero, List.set_cons_succ])
        refine wpAnyH_take (i := 11) (v := undef) rfl (by kernel_rfl) (by kernel_rfl) (by kernel_rfl) (fun _ _ _ h => h) (Or.inr ⟨by rfl, rfl⟩) (by assumption) ?_
        (try simp only [List.getElem_toArray, List.getElem_cons_succ, List.getElem_cons_zero, Act.put, List.setIfInBounds_toArray, List.set_cons_zero, List.set_cons_succ])
        refine wpAnyH_take (i := 12) (v := ?_) rfl (by kernel_rfl) (by kernel_rfl) (by kernel_rfl) (fun _ _ _ h => h) (Or.inl ⟨by rfl, ?_⟩) (by assumption) ?_
        rotate_left
        · (intro w hSw; (try dsimp only at hSw); go_simp; (try with_reducible rfl))
        (try simp only [List.getElem_toArray, List.getElem_cons_succ, List.getElem_cons_zero, Act.put, List.setIfInBounds_toArray, List.set_cons_zero, List.set_cons_succ])
        refine wpAnyH_take (i := 13) (v := ?_) rfl (by kernel_rfl) (by kernel_rfl) (by kernel_rfl) (fun _ _ _ h => h) (Or.inl ⟨by rfl, ?_⟩) (by assumption) ?_
        rotate_left
        · (intro w hSw; (try dsimp only at hSw); go_simp; (try with_reducible rfl))
        (try simp only [List.getElem_toArray, List.getElem_cons_succ, List.getElem_cons_zero, Act.put, List.setIfInBounds_toArray, List.set_cons_zero, List.set_cons_succ])
        refine wpAnyH_take (i := 14) (v := undef) rfl (by kernel_rfl) (by kernel_rfl) (by kernel_rfl) (fun _ _ _ h => h) (Or.inr ⟨by rfl, rfl⟩) (by assumption) ?_
        (try simp only [List.getElem_toArray, List.getElem_cons_succ, List.getElem_cons_zero, Act.put, List.setIfInBounds_toArray, List.set_cons_zero, List.set_cons_succ])
        refine wpAnyH_take (i := 15) (v := undef) rfl (by kernel_rfl) (by kernel_rfl) (by kernel_rfl) (fun _ _ _ h => h) (Or.inr ⟨by rfl, rfl⟩) (by assumption) ?_
        (try simp only [List.getElem_toArray, List.getElem_cons_succ, List.getElem_cons_zero, Act.put, List.setIfInBounds_toArray, List.set_cons_zero, List.set_cons_succ])
        refine wpAnyH_take (i := 16) (v := ?_) rfl (by kernel_rfl) (by kernel_rfl) (by kernel_rfl) (fun _ _ _ h => h) (Or.inl ⟨by rfl, ?_⟩) (by assumption) ?_
        rotate_left
        · (intro w hSw; (try dsimp only at hSw); go_simp; (try with_reducible rfl))
        (try simp only [List.getElem_toArray, List.getElem_cons_succ, List.getElem_cons_zero, Act.put, List.setIfInBounds_toArray, List.set_cons_zero, List.set_cons_succ])
        refine wpAnyH_take (i := 17) (v := ?_) rfl (by kernel_rfl) (by kernel_rfl) (by kernel_rfl) (fun _ _ _ h => h) (Or.inl ⟨by rfl, ?_⟩) (by assumption) ?_
        rotate_left
        · (intro w hSw; (try dsimp only at hSw); go_simp; (try with_reducible rfl))
        (try simp only [List.getElem_toArray, List.getElem_cons_succ, List.getElem_cons_zero, Act.put, List.setIfInBounds_toArray, List.set_cons_zero, List.set_cons_succ])
        refine wpAnyH_take (i := 18) (v := ?_) rfl (by kernel_rfl) (by kernel_rfl) (by kernel_rfl) (fun _ _ _ h => h) (Or.inl ⟨by rfl, ?_⟩) (by assumption) ?_
        rotate_left
        · (intro w hSw; (try dsimp only at hSw); go_simp; (try with_reducible rfl))
        (try simp only [List.getElem_toArray, List.getElem_cons_succ, List.getElem_cons_zero, Act.put, List.setIfInBounds_toArray, List.set_cons_zero, List.set_cons_succ])
        refine wpAnyH_take (i := 19) (v := ?_) rfl (by kernel_rfl) (by kernel_rfl) (by kernel_rfl) (fun _ _ _ h => h) (Or.inl ⟨by rfl, ?_⟩) (by assumption) ?_
        rotate_left
        · (intro w hSw; (try dsimp only at hSw); go_simp; (try with_reducible rfl))
        (try simp only [List.getElem_toArray, List.getElem_cons_succ, List.getElem_cons_zero, Act.put, List.setIfInBounds_toArray, List.set_cons_zero, List.set_cons_succ])
        refine wpAnyH_take (i := 20) (v := ?_) rfl (by kernel_rfl) (by kernel_rfl) (by kernel_rfl) (fun _ _ _ h => h) (Or.inl ⟨by rfl, ?_⟩) (by assumption) ?_
        rotate_left
        · (intro w hSw; (try dsimp only at hSw); go_simp; (try with_reducible rfl))
        (try simp only [List.getElem_toArray, List.getElem_cons_succ, List.getElem_cons_zero, Act.put, List.setIfInBounds_toArray, List.set_cons_zero, List.set_cons_succ])
        refine wpAnyH_take (i := 21) (v := ?_) rfl (by kernel_rfl) (by kernel_rfl) (by kernel_rfl) (fun _ _ _ h => h) (Or.inl ⟨by rfl, ?_⟩) (by assumption) ?_
        rotate_left
        · (intro w hSw; (try dsimp only at hSw); go_simp; (try with_reducible rfl))
        (try simp only [List.getElem_toArray, List.getElem_cons_succ, List.getElem_cons_zero, Act.put, List.setIfInBounds_toArray, List.set_cons_zero, List.set_cons_succ])
        refine wpAnyH_take (i := 22) (v := ?_) rfl (by kernel_rfl) (by kernel_rfl) (by kernel_rfl) (fun _ _ _ h => h) (Or.inl ⟨by rfl, ?_⟩) (by assumption) ?_
        rotate_left
        · (intro w hSw; (try dsimp only at hSw); go_simp; (try with_reducible rfl))
        (try simp only [List.getElem_toArray, List.getElem_cons_succ, List.getElem_cons_zero, Act.put, List.setIfInBounds_toArray, List.set_cons_zero, List.set_cons_succ])
        refine wpAnyH_take (i := 23) (v := ?_) rfl (by kernel_rfl) (by kernel_rfl) (by kernel_rfl) (fun _ _ _ h => h) (Or.inl ⟨by rfl, ?_⟩) (by assumption) ?_
        rotate_left
        · (intro w hSw; (try dsimp only at hSw); go_simp; (try with_reducible rfl))
        (try simp only [List.getElem_toArray, List.getElem_cons_succ, List.getElem_cons_zero, Act.put, List.setIfInBounds_toArray, List.set_cons_zero, List.set_cons_succ])
        refine wpAnyH_take (i := 24) (v := ?_) rfl (by kernel_rfl) (by kernel_rfl) (by kernel_rfl) (fun _ _ _ h => h) (Or.inl ⟨by rfl, ?_⟩) (by assumption) ?_
        rotate_left
        · (intro w hSw; (try dsimp only at hSw); go_simp; (try with_reducible rfl))
        (try simp only [List.getElem_toArray, List.getElem_cons_succ, List.getElem_cons_zero, Act.put, List.setIfInBounds_toArray, List.set_cons_zero, List.set_cons_succ])
        refine wpAnyH_take (i := 25) (v := ?_) rfl (by kernel_rfl) (by kernel_rfl) (by kernel_rfl) (fun _ _ _ h => h) (Or.inl ⟨by rfl, ?_⟩) (by assumption) ?_
        rotate_left
        · (intro w hSw; (try dsimp only at hSw); go_simp; (try with_reducible rfl))
        (try simp only [List.getElem_toArray, List.getElem_cons_succ, List.getElem_cons_zero, Act.put, List.setIfInBounds_toArray, List.set_cons_zero, List.set_cons_succ])
        refine wpAnyH_take (i := 26) (v := ?_) rfl (by kernel_rfl) (by kernel_rfl) (by kernel_rfl) (fun _ _ _ h => h) (Or.inl ⟨by rfl, ?_⟩) (by assumption) ?_
        rotate_left
        · (intro w hSw; (try dsimp only at hSw); go_simp; (try with_reducible rfl))
        (try simp only [List.getElem_toArray, List.getElem_cons_succ, List.getElem_cons_zero, Act.put, List.setIfInBounds_toArray, List.set_cons_zero, List.set_cons_succ])
        refine wpAnyH_take (i := 27) (v := ?_) rfl (by kernel_rfl) (by kernel_rfl) (by kernel_rfl) (fun _ _ _ h => h) (Or.inl ⟨by rfl, ?_⟩) (by assumption) ?_
        rotate_left
        · (intro w hSw; (try dsimp only at hSw); go_simp; (try with_reducible rfl))
        (try simp only [List.getElem_toArray, List.getElem_cons_succ, List.getElem_cons_zero, Act.put, List.setIfInBounds_toArray, List.set_cons_zero, List.set_cons_succ])
        refine wpAnyH_take (i := 28) (v := ?_) rfl (by kernel_rfl) (by kernel_rfl) (by kernel_rfl) (fun _ _ _ h => h) (Or.inl ⟨by rfl, ?_⟩) (by assumption) ?_
        rotate_left
        · (intro w hSw; (try dsimp only at hSw); go_simp; (try with_reducible rfl))
        (try simp only [List.getElem_toArray, List.getElem_cons_succ, List.getElem_cons_zero, Act.put, List.setIfInBounds_toArray, List.set_cons_zero, List.set_cons_succ])
        refine wpAnyH_take (i := 29) (v := ?_) rfl (by kernel_rfl) (by kernel_rfl) (by kernel_rfl) (fun _ _ _ h => h) (Or.inl ⟨by rfl, ?_⟩) (by assumption) ?_
        rotate_left
        · (intro w hSw; (try dsimp only at hSw); go_simp; (try with_reducible rfl))
        (try simp only [List.getElem_toArray, List.getElem_cons_succ, List.getElem_cons_zero, Act.put, List.setIfInBounds_toArray, List.set_cons_zero, List.set_cons_succ])
        refine wpAnyH_take (i := 30) (v := ?_) rfl (by kernel_rfl) (by kernel_rfl) (by kernel_rfl) (fun _ _ _ h => h) (Or.inl ⟨by rfl, ?_⟩) (by assumption) ?_
        rotate_left
        · (intro w hSw; (try dsimp only at hSw); go_simp; (try with_reducible rfl))
        (try simp only [List.getElem_toArray, List.getElem_cons_succ, List.getElem_cons_zero, Act.put, List.setIfInBounds_toArray, List.set_cons_zero, List.set_cons_succ])
        refine wpAnyH_take (i := 31) (v := ?_) rfl (by kernel_rfl) (by kernel_rfl) (by kernel_rfl) (fun _ _ _ h => h) (Or.inl ⟨by rfl, ?_⟩) (by assumption) ?_
        rotate_left
        · (intro w hSw; (try dsimp only at hSw); go_simp; (try with_reducible rfl))
        (try simp only [List.getElem_toArray, List.getElem_cons_succ, List.getElem_cons_zero, Act.put, List.setIfInBounds_toArray, List.set_cons_zero, List.set_cons_succ])
        refine wpAnyH_take (i := 32) (v := ?_) rfl (by kernel_rfl) (by kernel_rfl) (by kernel_rfl) (fun _ _ _ h => h) (Or.inl ⟨by rfl, ?_⟩) (by assumption) ?_
        rotate_left
        · (intro w hSw; (try dsimp only at hSw); go_simp; (try with_reducible rfl))
        (try simp only [List.getElem_toArray, List.getElem_cons_succ, List.getElem_cons_zero, Act.put, List.setIfInBounds_toArray, List.set_cons_zero, List.set_cons_succ])
        refine wpAnyH_take (i := 37) (v := ?_) rfl (by kernel_rfl) (by kernel_rfl) (by kernel_rfl) (fun _ _ _ h => h) (Or.inl ⟨by rfl, ?_⟩) (by assumption) ?_
        rotate_left
        · (intro w hSw; (try dsimp only at hSw); go_simp; (try with_reducible rfl))
        (try simp only [List.getElem_toArray, List.getElem_cons_succ, List.getElem_cons_zero, Act.put, List.setIfInBounds_toArray, List.set_cons_zero, List.set_cons_succ])
        refine wpAnyH_ready (rs := [33]) (by kernel_rfl) (by simp) (AllReadyH.cons (o := _) rfl (fun K hK => ?_) AllReadyH.nil)
        go_simp
        go_at_call 36
        refine (next_any 9 (by omega) (by omega) hT).mono ?_
        rintro e w15 ⟨r, rfl, hr, hT', hg⟩
        replace f0 := f0.tape hT hg
        replace f1 := f1.tape hT hg
        replace f2 := f2.tape hT hg
        replace f3 := f3.tape hT hg
        replace f4 := f4.tape hT hg
        replace f5 := f5.tape hT hg
        replace b0 := b0.other hg (by omega)
        replace b1 := b1.other hg (by omega)
        replace b2 := b2.other hg (by omega)
        replace hlt := Nat.lt_of_lt_of_le hlt hg.size
        replace H0 := H0.grown hg H0.size (by rintro k hk; injection hk with hk; omega)
        clear hT
        have hT := hT'
        clear hT' hg
        have wr := wrap1 hr
        clear hT hlt
        go_wp2_with fail
        refine hK.out _ _ ⟨b0.cell 0 _ rfl, b0.cell 1 _ rfl, b0.cell 2 _ rfl, b0.cell 3 _ rfl, b0.cell 4 _ rfl, b0.cell 5 _ rfl, b1.cell 0 _ rfl, b1.cell 1 _ rfl, b1.cell 2 _ rfl, b1.cell 3 _ rfl, b1.cell 4 _ rfl, b1.cell 5 _ rfl⟩ (fun hHeld => ?_)
        clear hK K
        (try simp only [List.getElem_toArray, List.getElem_cons_succ, List.getElem_cons_zero, Act.put, List.setIfInBounds_toArray, List.set_cons_zero, List.set_cons_succ])
        refine wpAnyH_take (i := 34) (v := ?_) rfl (by kernel_rfl) (by kernel_rfl) (by kernel_rfl) (fun _ _ _ h => h) (Or.inl ⟨by rfl, ?_⟩) (by assumption) ?_
        rotate_left
        · (intro w hSw; (try dsimp only at hSw); go_simp; (try with_reducible rfl))
        (try simp only [List.getElem_toArray, List.getElem_cons_succ, List.getElem_cons_zero, Act.put, List.setIfInBounds_toArray, List.set_cons_zero, List.set_cons_succ])
        refine wpAnyH_ready (rs := [35]) (by kernel_rfl) (by simp) (AllReadyH.cons (o := _) rfl (fun K hK => ?_) AllReadyH.nil)
        go_simp
        go_at_call 48
        refine (npart_v (d := 4) (1 + (r : Int)) (by omega) (by omega) (by omega)).mono ?_
        rintro e w16 ⟨s8, A8, n8, c8, D8, m8, e8, rfl, p8, hb⟩
        replace f0 := f0.below hb
        replace f1 := f1.below hb
        replace f2 := f2.below hb
        replace f3 := f3.below hb
        replace f4 := f4.below hb
        replace f5 := f5.below hb
        replace b0 := b0.below hb
        replace b1 := b1.below hb
        replace b2 := b2.below hb
        replace H0 := H0.trans (hb.mono H0.size)
        clear hb
        go_wp2_with fail
        refine hK.out _ _ ⟨b0.cell 0 _ rfl, b0.cell 1 _ rfl, b0.cell 2 _ rfl, b0.cell 3 _ rfl, b0.cell 4 _ rfl, b0.cell 5 _ rfl, b1.cell 0 _ rfl, b1.cell 1 _ rfl, b1.cell 2 _ rfl, b1.cell 3 _ rfl, b1.cell 4 _ rfl, b1.cell 5 _ rfl⟩ (fun hHeld => ?_)
        clear hK K
        (try simp only [List.getElem_toArray, List.getElem_cons_succ, List.getElem_cons_zero, Act.put, List.setIfInBounds_toArray, List.set_cons_zero, List.set_cons_succ])
        refine wpAnyH_ready (rs := [36]) (by kernel_rfl) (by simp) (AllReadyH.cons (o := _) rfl (fun K hK => ?_) AllReadyH.nil)
        go_simp
        go_at_call 30
        refine (toq_v p8 (by omega)).mono ?_
        rintro e w17 ⟨s9, A9, n9, c9, D9, m9, e9, rfl, p9, hb⟩
        replace f0 := f0.below hb
        replace f1 := f1.below hb
        replace f2 := f2.below hb
        replace f3 := f3.below hb
        replace f4 := f4.below hb
        replace f5 := f5.below hb
        replace p8 := p8.below hb
        replace b0 := b0.below hb
        replace b1 := b1.below hb
        replace b2 := b2.below hb
        replace H0 := H0.trans (hb.mono H0.size)
        clear hb
        clear p8
        go_wp2_with fail
        refine hK.out _ _ ⟨b0.cell 0 _ rfl, b0.cell 1 _ rfl, b0.cell 2 _ rfl, b0.cell 3 _ rfl, b0.cell 4 _ rfl, b0.cell 5 _ rfl, b1.cell 0 _ rfl, b1.cell 1 _ rfl, b1.cell 2 _ rfl, b1.cell 3 _ rfl, b1.cell 4 _ rfl, b1.cell 5 _ rfl⟩ (fun hHeld => ?_)
        clear hK K
        (try simp only [List.getElem_toArray, List.getElem_cons_succ, List.getElem_cons_zero, Act.put, List.setIfInBounds_toArray, List.set_cons_zero, List.set_cons_succ])
        refine wpAnyH_ready (rs := [38]) (by kernel_rfl) (by simp) (AllReadyH.cons (o := _) rfl (fun K hK => ?_) AllReadyH.nil)
        go_simp
        go_at_call 27
        refine (pscale_v p9.rq f0.rq f1.rq (by omega) (by omega)).mono ?_
        rintro e w18 ⟨s10, A10, n10, c10, D10, m10, e10, s11, A11, n11, c11, D11, m11, e11, rfl, p10, p11, hb⟩
        replace f0 := f0.below hb
        replace f1 := f1.below hb
        replace f2 := f2.below hb
        replace f3 := f3.below hb
        replace f4 := f4.below hb
        replace f5 := f5.below hb
        replace p9 := p9.below hb
        replace b0 := b0.below hb
        replace b1 := b1.below hb
        replace b2 := b2.below hb
        replace H0 := H0.trans (hb.mono H0.size)
        clear hb
        clear p9
        go_wp2_with fail
        refine hK.out _ _ ⟨b0.cell 0 _ rfl, b0.cell 1 _ rfl, b0.cell 2 _ rfl, b0.cell 3 _ rfl, b0.cell 4 _ rfl, b0.cell 5 _ rfl, b1.cell 0 _ rfl, b1.cell 1 _ rfl, b1.cell 2 _ rfl, b1.cell 3 _ rfl, b1.cell 4 _ rfl, b1.cell 5 _ rfl⟩ (fun hHeld => ?_)
        clear hK K
        (try simp only [List.getElem_toArray, List.getElem_cons_succ, List.getElem_cons_zero, Act.put, List.setIfInBounds_toArray, List.set_cons_zero, List.set_cons_succ])
        refine wpAnyH_ready (rs := [39]) (by kernel_rfl) (by simp) (AllReadyH.cons (o := _) rfl (fun K hK => ?_) AllReadyH.nil)
        go_simp
        go_at_call 41
        refine (pangle_v f0.rq f1.rq p10.rq p11.rq (by omega) (by omega) (ang_scale _ _ _ (part_pos r))).mono ?_
        rintro e w19 ⟨rfl, hb⟩
        replace f0 := f0.below hb
        replace f1 := f1.below hb
        replace f2 := f2.below hb
        replace f3 := f3.below hb
        replace f4 := f4.below hb
        replace f5 := f5.below hb
        replace p10 := p10.below hb
        replace p11 := p11.below hb
        replace b0 := b0.below hb
        replace b1 := b1.below hb
        replace b2 := b2.below hb
        replace H0 := H0.trans (hb.mono H0.size)
        clear hb
        clear p10
        clear p11
        go_wp2_with fail
        refine hK.out _ _ ⟨b0.cell 0 _ rfl, b0.cell 1 _ rfl, b0.cell 2 _ rfl, b0.cell 3 _ rfl, b0.cell 4 _ rfl, b0.cell 5 _ rfl, b1.cell 0 _ rfl, b1.cell 1 _ rfl, b1.cell 2 _ rfl, b1.cell 3 _ rfl, b1.cell 4 _ rfl, b1.cell 5 _ rfl⟩ (fun hHeld => ?_)
        clear hK K
        (try simp only [List.getElem_toArray, List.getElem_cons_succ, List.getElem_cons_zero, Act.put, List.setIfInBounds_toArray, List.set_cons_zero, List.set_cons_succ])
        refine wpAnyH_take (i := 40) (v := ?_) rfl (by kernel_rfl) (by kernel_rfl) (by kernel_rfl) (fun _ _ _ h => h) (Or.inl ⟨by rfl, ?_⟩) (by assumption) ?_
        rotate_left
        · (intro w hSw; (try dsimp only at hSw); go_simp; (try with_reducible rfl))
        (try simp only [List.getElem_toArray, List.getElem_cons_succ, List.getElem_cons_zero, Act.put, List.setIfInBounds_toArray, List.set_cons_zero, List.set_cons_succ])
        refine wpAnyH_take (i := 41) (v := ?_) rfl (by kernel_rfl) (by kernel_rfl) (by kernel_rfl) (fun _ _ _ h => h) (Or.inl ⟨by rfl, ?_⟩) (by assumption) ?_
        rotate_left
        · (intro w hSw; (try dsimp only at hSw); go_simp; (try with_reducible rfl))
        (try simp only [List.getElem_toArray, List.getElem_cons_succ, List.getElem_cons_zero, Act.put, List.setIfInBounds_toArray, List.set_cons_zero, List.set_cons_succ])
        refine wpAnyH_done (by kernel_rfl) ?_ _
        refine NoPanic.normal ?_
        go_wp2_with fail
        go_meet
        exact ⟨rfl, f0, f1, f2, f3, b0, b1, H0⟩
      · have hy1 : decide (0 ≤ ky) = false := decide_eq_false y1_
        clear r1 r2 r3
        have Hyx2 : Hid (angQ (x1 : Rat) (y1 : Rat) (x0 : Rat) (y0 : Rat) = -1) := Lib.hid Hyx.out
        clear Hyx
        clear y1_
        have hw9 : IntKind.i64.wrap (-1) = -1 := by decide
        have hD := drawn_below w12
        replace f0 := f0.below hD
        replace f1 := f1.below hD
        replace f2 := f2.below hD
        replace f3 := f3.below hD
        replace f4 := f4.below hD
        replace f5 := f5.below hD
        replace b0 := b0.below hD
        replace b1 := b1.below hD
        replace b2 := b2.below hD
        replace hT := hT.keep hD hlt
        replace hlt := Nat.lt_of_lt_of_le hlt hD.size
        replace H0 := H0.trans (hD.mono H0.size)
        clear hD
        refine wp_region_noPanic ?_
        refine wp_region_held_drew (S := (fun V => V.cell? ⟨w7.heap.size, 0, none⟩ = some (.bool s0) ∧ V.cell? ⟨w7.heap.size, 1, none⟩ = some (.slice A0 n0 c0) ∧ V.cell? ⟨w7.heap.size, 2, none⟩ = some (.slice D0 m0 e0) ∧ V.cell? ⟨w7.heap.size, 3, none⟩ = some (.bool s1) ∧ V.cell? ⟨w7.heap.size, 4, none⟩ = some (.slice A1 n1 c1) ∧ V.cell? ⟨w7.heap.size, 5, none⟩ = some (.slice D1 m1 e1) ∧ V.cell? ⟨w7.heap.size + 1, 0, none⟩ = some (.bool s2) ∧ V.cell? ⟨w7.heap.size + 1, 1, none⟩ = some (.slice A2 n2 c2) ∧ V.cell? ⟨w7.heap.size + 1, 2, none⟩ = some (.slice D2 m2 e2) ∧ V.cell? ⟨w7.heap.size + 1, 3, none⟩ = some (.bool s3) ∧ V.cell? ⟨w7.heap.size + 1, 4, none⟩ = some (.slice A3 n3 c3) ∧ V.cell? ⟨w7.heap.size + 1, 5, none⟩ = some (.slice D3 m3 e3))) (by kernel_rfl) ⟨b0.cell 0 _ rfl, b0.cell 1 _ rfl, b0.cell 2 _ rfl, b0.cell 3 _ rfl, b0.cell 4 _ rfl, b0.cell 5 _ rfl, b1.cell 0 _ rfl, b1.cell 1 _ rfl, b1.cell 2 _ rfl, b1.cell 3 _ rfl, b1.cell 4 _ rfl, b1.cell 5 _ rfl⟩ (fun hHeld => ?_)
        generalize w12.drew = v13 at H0 hHeld f0 f1 f2 f3 f4 f5 b0 b1 b2 hT hlt ⊢
        refine wpAnyH_take (i := 0) (v := ?_) rfl (by kernel_rfl) (by kernel_rfl) (by kernel_rfl) (fun _ _ _ h => h) (Or.inl ⟨by rfl, ?_⟩) (by assumption) ?_
        rotate_left
        · (intro w hSw; (try dsimp only at hSw); go_simp; (try with_reducible rfl))
        (try simp only [List.getElem_toArray, List.getElem_cons_zero, Act.put, List.setIfInBounds_toArray, List.set_cons_zero, List.set_cons_succ])
        refine wpAnyH_take (i := 1) (v := ?_) rfl (by kernel_rfl) (by kernel_rfl) (by kernel_rfl) (fun _ _ _ h => h) (Or.inl ⟨by rfl, ?_⟩) (by assumption) ?_
        rotate_left
        · (intro w hSw; (try dsimp only at hSw); go_simp; (try with_reducible rfl))
        (try simp only [List.getElem_toArray, List.getElem_cons_succ, List.getElem_cons_zero, Act.put, List.setIfInBounds_toArray, List.set_cons_zero, List.set_cons_succ])
        refine wpAnyH_take (i := 3) (v := ?_) rfl (by kernel_rfl) (by kernel_rfl) (by kernel_rfl) (fun _ _ _ h => h) (Or.inl ⟨by rfl, ?_⟩) (by assumption) ?_
        rotate_left
        · (intro w hSw; (try dsimp only at hSw); go_simp; (try with_reducible rfl))
        (try simp only [List.getElem_toArray, List.getElem_cons_succ, List.getElem_cons_zero, Act.put, List.setIfInBounds_toArray, List.set_cons_zero, List.set_cons_succ])
        refine wpAnyH_take (i := 4) (v := ?_) rfl (by kernel_rfl) (by kernel_rfl) (by kernel_rfl) (fun _ _ _ h => h) (Or.inl ⟨by rfl, ?_⟩) (by assumption) ?_
        rotate_left
        · (intro w hSw; (try dsimp only at hSw); go_simp; (try with_reducible rfl))
        (try simp only [List.getElem_toArray, List.getElem_cons_succ, List.getElem_cons_zero, Act.put, List.setIfInBounds_toArray, List.set_cons_zero, List.set_cons_succ])
        refine wpAnyH_ready (rs := [2]) (by kernel_rfl) (by simp) (AllReadyH.cons (o := _) rfl (fun K hK => ?_) AllReadyH.nil)
        go_simp
        go_at_call 41
        refine (pangle_v f2.rq f3.rq f0.rq f1.rq (by omega) (by omega) Hyx2.out).mono ?_
        rintro e w14 ⟨rfl, hb⟩
        replace f0 := f0.below hb
        replace f1 := f1.below hb
        replace f2 := f2.below hb
        replace f3 := f3.below hb
        replace f4 := f4.below hb
        replace f5 := f5.below hb
        replace b0 := b0.below hb
        replace b1 := b1.below hb
        replace b2 := b2.below hb
        replace hT := hT.keep hb hlt
        replace hlt := Nat.lt_of_lt_of_le hlt hb.size
        replace H0 := H0.trans (hb.mono H0.size)
        clear hb
        go_wp2_with fail
        refine hK.out _ _ ⟨b0.cell 0 _ rfl, b0.cell 1 _ rfl, b0.cell 2 _ rfl, b0.cell 3 _ rfl, b0.cell 4 _ rfl, b0.cell 5 _ rfl, b1.cell 0 _ rfl, b1.cell 1 _ rfl, b1.cell 2 _ rfl, b1.cell 3 _ rfl, b1.cell 4 _ rfl, b1.cell 5 _ rfl⟩ (fun hHeld => ?_)
        clear hK K
        (try simp only [List.getElem_toArray, List.getElem_cons_succ, List.getElem_cons_zero, Act.put, List.setIfInBounds_toArray, List.set_cons_zero, List.set_cons_succ])
        refine wpAnyH_take (i := 5) (v := ?_) rfl (by kernel_rfl) (by kernel_rfl) (by kernel_rfl) (fun _ _ _ h => h) (Or.inl ⟨by rfl, ?_⟩) (by assumption) ?_
        rotate_left
        · (intro w hSw; (try dsimp only at hSw); go_simp; (try with_reducible rfl))
        (try simp only [List.getElem_toArray, List.getElem_cons_succ, List.getElem_cons_zero, Act.put, List.setIfInBounds_toArray, List.set_cons_zero, List.set_cons_succ])
        refine wpAnyH_take (i := 6) (v := ?_) rfl (by kernel_rfl) (by kernel_rfl) (by kernel_rfl) (fun _ _ _ h => h) (Or.inl ⟨by rfl, ?_⟩) (by assumption) ?_
        rotate_left
        · (intro w hSw; (try dsimp only at hSw); go_simp; (try with_reducible rfl))
        (try simp only [List.getElem_toArray, List.getElem_cons_succ, List.getElem_cons_zero, Act.put, List.setIfInBounds_toArray, List.set_cons_zero, List.set_cons_succ])
        refine wpAnyH_take (i := 7) (v := ?_) rfl (by kernel_rfl) (by kernel_rfl) (by kernel_rfl) (fun _ _ _ h => h) (Or.inl ⟨by rfl, ?_⟩) (by assumption) ?_
        rotate_left
        · (intro w hSw; (try dsimp only at hSw); go_simp; (try with_reducible rfl))
        (try simp only [List.getElem_toArray, List.getElem_cons_succ, List.getElem_cons_zero, Act.put, List.setIfInBounds_toArray, List.set_cons_zero, List.set_cons_succ])
        refine wpAnyH_take (i := 8) (v := ?_) rfl (by kernel_rfl) (by kernel_rfl) (by kernel_rfl) (fun _ _ _ h => h) (Or.inl ⟨by rfl, ?_⟩) (by assumption) ?_
        rotate_left
        · (intro w hSw; (try dsimp only at hSw); go_simp; (try with_reducible rfl))
        (try simp only [List.getElem_toArray, List.getElem_cons_succ, List.getElem_cons_zero, Act.put, List.setIfInBounds_toArray, List.set_cons_zero, List.set_cons_succ])
        refine wpAnyH_take (i := 9) (v := ?_) rfl (by kernel_rfl) (by kernel_rfl) (by kernel_rfl) (fun _ _ _ h => h) (Or.inl ⟨by rfl, ?_⟩) (by assumption) ?_
        rotate_left
        · (intro w hSw; (try dsimp only at hSw); go_simp; (try with_reducible rfl))
        (try simp only [List.getElem_toArray, List.getElem_cons_succ, List.getElem_cons_zero, Act.put, List.setIfInBounds_toArray, List.set_cons_zero, List.set_cons_succ])
        refine wpAnyH_take (i := 10) (v := undef) rfl (by kernel_rfl) (by kernel_rfl) (by kernel_rfl) (fun _ _ _ h => h) (Or.inr ⟨by rfl, rfl⟩) (by assumption) ?_
        (try simp only [List.getElem_toArray, List.getElem_cons_succ, List.getElem_cons_zero, Act.put, List.setIfInBounds_toArray, List.set_cons_zero, List.set_cons_succ])
        refine wpAnyH_take (i := 11) (v := undef) rfl (by kernel_rfl) (by kernel_rfl) (by kernel_rfl) (fun _ _ _ h => h) (Or.inr ⟨by rfl, rfl⟩) (by assumption) ?_
        (try simp only [List.getElem_toArray, List.getElem_cons_succ, List.getElem_cons_zero, Act.put, List.setIfInBounds_toArray, List.set_cons_zero, List.set_cons_succ])
        refine wpAnyH_take (i := 12) (v := ?_) rfl (by kernel_rfl) (by kernel_rfl) (by kernel_rfl) (fun _ _ _ h => h) (Or.inl ⟨by rfl, ?_⟩) (by assumption) ?_
        rotate_left
        · (intro w hSw; (try dsimp only at hSw); go_simp; (try with_reducible rfl))
        (try simp only [List.getElem_toArray, List.getElem_cons_succ, List.getElem_cons_zero, Act.put, List.setIfInBounds_toArray, List.set_cons_zero, List.set_cons_succ])
        refine wpAnyH_take (i := 13) (v := ?_) rfl (by kernel_rfl) (by kernel_rfl) (by kernel_rfl) (fun _ _ _ h => h) (Or.inl ⟨by rfl, ?_⟩) (by assumption) ?_
        rotate_left
        · (intro w hSw; (try dsimp only at hSw); go_simp; (try with_reducible rfl))
        (try simp only [List.getElem_toArray, List.getElem_cons_succ, List.getElem_cons_zero, Act.put, List.setIfInBounds_toArray, List.set_cons_zero, List.set_cons_succ])
        refine wpAnyH_take (i := 14) (v := undef) rfl (by kernel_rfl) (by kernel_rfl) (by kernel_rfl) (fun _ _ _ h => h) (Or.inr ⟨by rfl, rfl⟩) (by assumption) ?_
        (try simp only [List.getElem_toArray, List.getElem_cons_succ, List.getElem_cons_zero, Act.put, List.setIfInBounds_toArray, List.set_cons_zero, List.set_cons_succ])
        refine wpAnyH_take (i := 15) (v := undef) rfl (by kernel_rfl) (by kernel_rfl) (by kernel_rfl) (fun _ _ _ h => h) (Or.inr ⟨by rfl, rfl⟩) (by assumption) ?_
        (try simp only [List.getElem_toArray, List.getElem_cons_succ, List.getElem_cons_zero, Act.put, List.setIfInBounds_toArray, List.set_cons_zero, List.set_cons_succ])
        refine wpAnyH_take (i := 16) (v := ?_) rfl (by kernel_rfl) (by kernel_rfl) (by kernel_rfl) (fun _ _ _ h => h) (Or.inl ⟨by rfl, ?_⟩) (by assumption) ?_
        rotate_left
        · (intro w hSw; (try dsimp only at hSw); go_simp; (try with_reducible rfl))
        (try simp only [List.getElem_toArray, List.getElem_cons_succ, List.getElem_cons_zero, Act.put, List.setIfInBounds_toArray, List.set_cons_zero, List.set_cons_succ])
        refine wpAnyH_take (i := 17) (v := ?_) rfl (by kernel_rfl) (by kernel_rfl) (by kernel_rfl) (fun _ _ _ h => h) (Or.inl ⟨by rfl, ?_⟩) (by assumption) ?_
        rotate_left
        · (intro w hSw; (try dsimp only at hSw); go_simp; (try with_reducible rfl))
        (try simp only [List.getElem_toArray, List.getElem_cons_succ, List.getElem_cons_zero, Act.put, List.setIfInBounds_toArray, List.set_cons_zero, List.set_cons_succ])
        refine wpAnyH_take (i := 18) (v := ?_) rfl (by kernel_rfl) (by kernel_rfl) (by kernel_rfl) (fun _ _ _ h => h) (Or.inl ⟨by rfl, ?_⟩) (by assumption) ?_
        rotate_left
        · (intro w hSw; (try dsimp only at hSw); go_simp; (try with_reducible rfl))
        (try simp only [List.getElem_toArray, List.getElem_cons_succ, List.getElem_cons_zero, Act.put, List.setIfInBounds_toArray, List.set_cons_zero, List.set_cons_succ])
        refine wpAnyH_take (i := 19) (v := ?_) rfl (by kernel_rfl) (by kernel_rfl) (by kernel_rfl) (fun _ _ _ h => h) (Or.inl ⟨by rfl, ?_⟩) (by assumption) ?_
        rotate_left
        · (intro w hSw; (try dsimp only at hSw); go_simp; (try with_reducible rfl))
        (try simp only [List.getElem_toArray, List.getElem_cons_succ, List.getElem_cons_zero, Act.put, List.setIfInBounds_toArray, List.set_cons_zero, List.set_cons_succ])
        refine wpAnyH_take (i := 20) (v := ?_) rfl (by kernel_rfl) (by kernel_rfl) (by kernel_rfl) (fun _ _ _ h => h) (Or.inl ⟨by rfl, ?_⟩) (by assumption) ?_
        rotate_left
        · (intro w hSw; (try dsimp only at hSw); go_simp; (try with_reducible rfl))
        (try simp only [List.getElem_toArray, List.getElem_cons_succ, List.getElem_cons_zero, Act.put, List.setIfInBounds_toArray, List.set_cons_zero, List.set_cons_succ])
        refine wpAnyH_take (i := 21) (v := ?_) rfl (by kernel_rfl) (by kernel_rfl) (by kernel_rfl) (fun _ _ _ h => h) (Or.inl ⟨by rfl, ?_⟩) (by assumption) ?_
        rotate_left
        · (intro w hSw; (try dsimp only at hSw); go_simp; (try with_reducible rfl))
        (try simp only [List.getElem_toArray, List.getElem_cons_succ, List.getElem_cons_zero, Act.put, List.setIfInBounds_toArray, List.set_cons_zero, List.set_cons_succ])
        refine wpAnyH_take (i := 22) (v := ?_) rfl (by kernel_rfl) (by kernel_rfl) (by kernel_rfl) (fun _ _ _ h => h) (Or.inl ⟨by rfl, ?_⟩) (by assumption) ?_
        rotate_left
        · (intro w hSw; (try dsimp only at hSw); go_simp; (try with_reducible rfl))
        (try simp only [List.getElem_toArray, List.getElem_cons_succ, List.getElem_cons_zero, Act.put, List.setIfInBounds_toArray, List.set_cons_zero, List.set_cons_succ])
        refine wpAnyH_take (i := 23) (v := ?_) rfl (by kernel_rfl) (by kernel_rfl) (by kernel_rfl) (fun _ _ _ h => h) (Or.inl ⟨by rfl, ?_⟩) (by assumption) ?_
        rotate_left
        · (intro w hSw; (try dsimp only at hSw); go_simp; (try with_reducible rfl))
        (try simp only [List.getElem_toArray, List.getElem_cons_succ, List.getElem_cons_zero, Act.put, List.setIfInBounds_toArray, List.set_cons_zero, List.set_cons_succ])
        refine wpAnyH_take (i := 24) (v := ?_) rfl (by kernel_rfl) (by kernel_rfl) (by kernel_rfl) (fun _ _ _ h => h) (Or.inl ⟨by rfl, ?_⟩) (by assumption) ?_
        rotate_left
        · (intro w hSw; (try dsimp only at hSw); go_simp; (try with_reducible rfl))
        (try simp only [List.getElem_toArray, List.getElem_cons_succ, List.getElem_cons_zero, Act.put, List.setIfInBounds_toArray, List.set_cons_zero, List.set_cons_succ])
        refine wpAnyH_take (i := 25) (v := ?_) rfl (by kernel_rfl) (by kernel_rfl) (by kernel_rfl) (fun _ _ _ h => h) (Or.inl ⟨by rfl, ?_⟩) (by assumption) ?_
        rotate_left
        · (intro w hSw; (try dsimp only at hSw); go_simp; (try with_reducible rfl))
        (try simp only [List.getElem_toArray, List.getElem_cons_succ, List.getElem_cons_zero, Act.put, List.setIfInBounds_toArray, List.set_cons_zero, List.set_cons_succ])
        refine wpAnyH_take (i := 26) (v := undef) rfl (by kernel_rfl) (by kernel_rfl) (by kernel_rfl) (fun _ _ _ h => h) (Or.inr ⟨by rfl, rfl⟩) (by assumption) ?_
        (try simp only [List.getElem_toArray, List.getElem_cons_succ, List.getElem_cons_zero, Act.put, List.setIfInBounds_toArray, List.set_cons_zero, List.set_cons_succ])
        refine wpAnyH_take (i := 27) (v := undef) rfl (by kernel_rfl) (by kernel_rfl) (by kernel_rfl) (fun _ _ _ h => h) (Or.inr ⟨by rfl, rfl⟩) (by assumption) ?_
        (try simp only [List.getElem_toArray, List.getElem_cons_succ, List.getElem_cons_zero, Act.put, List.setIfInBounds_toArray, List.set_cons_zero, List.set_cons_succ])
        refine wpAnyH_take (i := 28) (v := ?_) rfl (by kernel_rfl) (by kernel_rfl) (by kernel_rfl) (fun _ _ _ h => h) (Or.inl ⟨by rfl, ?_⟩) (by assumption) ?_
        rotate_left
        · (intro w hSw; (try dsimp only at hSw); go_simp; (try with_reducible rfl))
        (try simp only [List.getElem_toArray, List.getElem_cons_succ, List.getElem_cons_zero, Act.put, List.setIfInBounds_toArray, List.set_cons_zero, List.set_cons_succ])
        refine wpAnyH_take (i := 29) (v := ?_) rfl (by kernel_rfl) (by kernel_rfl) (by kernel_rfl) (fun _ _ _ h => h) (Or.inl ⟨by rfl, ?_⟩) (by assumption) ?_
        rotate_left
        · (intro w hSw; (try dsimp only at hSw); go_simp; (try with_reducible rfl))
        (try simp only [List.getElem_toArray, List.getElem_cons_succ, List.getElem_cons_zero, Act.put, List.setIfInBounds_toArray, List.set_cons_zero, List.set_cons_succ])
        refine wpAnyH_take (i := 30) (v := ?_) rfl (by kernel_rfl) (by kernel_rfl) (by kernel_rfl) (fun _ _ _ h => h) (Or.inl ⟨by rfl, ?_⟩) (by assumption) ?_
        rotate_left
        · (intro w hSw; (try dsimp only at hSw); go_simp; (try with_reducible rfl))
        (try simp only [List.getElem_toArray, List.getElem_cons_succ, List.getElem_cons_zero, Act.put, List.setIfInBounds_toArray, List.set_cons_zero, List.set_cons_succ])
        refine wpAnyH_take (i := 31) (v := ?_) rfl (by kernel_rfl) (by kernel_rfl) (by kernel_rfl) (fun _ _ _ h => h) (Or.inl ⟨by rfl, ?_⟩) (by assumption) ?_
        rotate_left
        · (intro w hSw; (try dsimp only at hSw); go_simp; (try with_reducible rfl))
        (try simp only [List.getElem_toArray, List.getElem_cons_succ, List.getElem_cons_zero, Act.put, List.setIfInBounds_toArray, List.set_cons_zero, List.set_cons_succ])
        refine wpAnyH_take (i := 32) (v := ?_) rfl (by kernel_rfl) (by kernel_rfl) (by kernel_rfl) (fun _ _ _ h => h) (Or.inl ⟨by rfl, ?_⟩) (by assumption) ?_
        rotate_left
        · (intro w hSw; (try dsimp only at hSw); go_simp; (try with_reducible rfl))
        (try simp only [List.getElem_toArray, List.getElem_cons_succ, List.getElem_cons_zero, Act.put, List.setIfInBounds_toArray, List.set_cons_zero, List.set_cons_succ])
        refine wpAnyH_take (i := 37) (v := ?_) rfl (by kernel_rfl) (by kernel_rfl) (by kernel_rfl) (fun _ _ _ h => h) (Or.inl ⟨by rfl, ?_⟩) (by assumption) ?_
        rotate_left
        · (intro w hSw; (try dsimp only at hSw); go_simp; (try with_reducible rfl))
        (try simp only [List.getElem_toArray, List.getElem_cons_succ, List.getElem_cons_zero, Act.put, List.setIfInBounds_toArray, List.set_cons_zero, List.set_cons_succ])
        refine wpAnyH_ready (rs := [33]) (by kernel_rfl) (by simp) (AllReadyH.cons (o := _) rfl (fun K hK => ?_) AllReadyH.nil)
        go_simp
        go_at_call 36
        refine (next_any 9 (by omega) (by omega) hT).mono ?_
        rintro e w15 ⟨r, rfl, hr, hT', hg⟩
        replace f0 := f0.tape hT hg
        replace f1 := f1.tape hT hg
        replace f2 := f2.tape hT hg
        replace f3 := f3.tape hT hg
        replace f4 := f4.tape hT hg
        replace f5 := f5.tape hT hg
        replace b0 := b0.other hg (by omega)
        replace b1 := b1.other hg (by omega)
        replace b2 := b2.other hg (by omega)
        replace hlt := Nat.lt_of_lt_of_le hlt hg.size
        replace H0 := H0.grown hg H0.size (by rintro k hk; injection hk with hk; omega)
        clear hT
        have hT := hT'
        clear hT' hg
        have wr := wrap1 hr
        clear hT hlt
        go_wp2_with fail
        refine hK.out _ _ ⟨b0.cell 0 _ rfl, b0.cell 1 _ rfl, b0.cell 2 _ rfl, b0.cell 3 _ rfl, b0.cell 4 _ rfl, b0.cell 5 _ rfl, b1.cell 0 _ rfl, b1.cell 1 _ rfl, b1.cell 2 _ rfl, b1.cell 3 _ rfl, b1.cell 4 _ rfl, b1.cell 5 _ rfl⟩ (fun hHeld => ?_)
        clear hK K
        (try simp only [List.getElem_toArray, List.getElem_cons_succ, List.getElem_cons_zero, Act.put, List.setIfInBounds_toArray, List.set_cons_zero, List.set_cons_succ])
        refine wpAnyH_take (i := 34) (v := ?_) rfl (by kernel_rfl) (by kernel_rfl) (by kernel_rfl) (fun _ _ _ h => h) (Or.inl ⟨by rfl, ?_⟩) (by assumption) ?_
        rotate_left
        · (intro w hSw; (try dsimp only at hSw); go_simp; (try with_reducible rfl))
        (try simp only [List.getElem_toArray, List.getElem_cons_succ, List.getElem_cons_zero, Act.put, List.setIfInBounds_toArray, List.set_cons_zero, List.set_cons_succ])
        refine wpAnyH_ready (rs := [35]) (by kernel_rfl) (by simp) (AllReadyH.cons (o := _) rfl (fun K hK => ?_) AllReadyH.nil)
        go_simp
        go_at_call 48
        refine (npart_v (d := 4) (1 + (r : Int)) (by omega) (by omega) (by omega)).mono ?_
        rintro e w16 ⟨s8, A8, n8, c8, D8, m8, e8, rfl, p8, hb⟩
        replace f0 := f0.below hb
        replace f1 := f1.below hb
        replace f2 := f2.below hb
        replace f3 := f3.below hb
        replace f4 := f4.below hb
        replace f5 := f5.below hb
        replace b0 := b0.below hb
        replace b1 := b1.below hb
        replace b2 := b2.below hb
        replace H0 := H0.trans (hb.mono H0.size)
        clear hb
        go_wp2_with fail
        refine hK.out _ _ ⟨b0.cell 0 _ rfl, b0.cell 1 _ rfl, b0.cell 2 _ rfl, b0.cell 3 _ rfl, b0.cell 4 _ rfl, b0.cell 5 _ rfl, b1.cell 0 _ rfl, b1.cell 1 _ rfl, b1.cell 2 _ rfl, b1.cell 3 _ rfl, b1.cell 4 _ rfl, b1.cell 5 _ rfl⟩ (fun hHeld => ?_)
        clear hK K
        (try simp only [List.getElem_toArray, List.getElem_cons_succ, List.getElem_cons_zero, Act.put, List.setIfInBounds_toArray, List.set_cons_zero, List.set_cons_succ])
        refine wpAnyH_ready (rs := [36]) (by kernel_rfl) (by simp) (AllReadyH.cons (o := _) rfl (fun K hK => ?_) AllReadyH.nil)
        go_simp
        go_at_call 30
        refine (toq_v p8 (by omega)).mono ?_
        rintro e w17 ⟨s9, A9, n9, c9, D9, m9, e9, rfl, p9, hb⟩
        replace f0 := f0.below hb
        replace f1 := f1.below hb
        replace f2 := f2.below hb
        replace f3 := f3.below hb
        replace f4 := f4.below hb
        replace f5 := f5.below hb
        replace p8 := p8.below hb
        replace b0 := b0.below hb
        replace b1 := b1.below hb
        replace b2 := b2.below hb
        replace H0 := H0.trans (hb.mono H0.size)
        clear hb
        clear p8
        go_wp2_with fail
        refine hK.out _ _ ⟨b0.cell 0 _ rfl, b0.cell 1 _ rfl, b0.cell 2 _ rfl, b0.cell 3 _ rfl, b0.cell 4 _ rfl, b0.cell 5 _ rfl, b1.cell 0 _ rfl, b1.cell 1 _ rfl, b1.cell 2 _ rfl, b1.cell 3 _ rfl, b1.cell 4 _ rfl, b1.cell 5 _ rfl⟩ (fun hHeld => ?_)
        clear hK K
        (try simp only [List.getElem_toArray, List.getElem_cons_succ, List.getElem_cons_zero, Act.put, List.setIfInBounds_toArray, List.set_cons_zero, List.set_cons_succ])
        refine wpAnyH_ready (rs := [38]) (by kernel_rfl) (by simp) (AllReadyH.cons (o := _) rfl (fun K hK => ?_) AllReadyH.nil)
        go_simp
        go_at_call 27
        refine (pscale_v p9.rq f0.rq f1.rq (by omega) (by omega)).mono ?_
        rintro e w18 ⟨s10, A10, n10, c10, D10, m10, e10, s11, A11, n11, c11, D11, m11, e11, rfl, p10, p11, hb⟩
        replace f0 := f0.below hb
        replace f1 := f1.below hb
        replace f2 := f2.below hb
        replace f3 := f3.below hb
        replace f4 := f4.below hb
        replace f5 := f5.below hb
        replace p9 := p9.below hb
        replace b0 := b0.below hb
        replace b1 := b1.below hb
        replace b2 := b2.below hb
        replace H0 := H0.trans (hb.mono H0.size)
        clear hb
        clear p9
        go_wp2_with fail
        refine hK.out _ _ ⟨b0.cell 0 _ rfl, b0.cell 1 _ rfl, b0.cell 2 _ rfl, b0.cell 3 _ rfl, b0.cell 4 _ rfl, b0.cell 5 _ rfl, b1.cell 0 _ rfl, b1.cell 1 _ rfl, b1.cell 2 _ rfl, b1.cell 3 _ rfl, b1.cell 4 _ rfl, b1.cell 5 _ rfl⟩ (fun hHeld => ?_)
        clear hK K
        (try simp only [List.getElem_toArray, List.getElem_cons_succ, List.getElem_cons_zero, Act.put, List.setIfInBounds_toArray, List.set_cons_zero, List.set_cons_succ])
        refine wpAnyH_ready (rs := [39]) (by kernel_rfl) (by simp) (AllReadyH.cons (o := _) rfl (fun K hK => ?_) AllReadyH.nil)
        go_simp
        go_at_call 41
        refine (pangle_v f0.rq f1.rq p10.rq p11.rq (by omega) (by omega) (ang_scale _ _ _ (part_pos r))).mono ?_
        rintro e w19 ⟨rfl, hb⟩
        replace f0 := f0.below hb
        replace f1 := f1.below hb
        replace f2 := f2.below hb
        replace f3 := f3.below hb
        replace f4 := f4.below hb
        replace f5 := f5.below hb
        replace p10 := p10.below hb
        replace p11 := p11.below hb
        replace b0 := b0.below hb
        replace b1 := b1.below hb
        replace b2 := b2.below hb
        replace H0 := H0.trans (hb.mono H0.size)
        clear hb
        clear p10
        clear p11
        go_wp2_with fail
        refine hK.out _ _ ⟨b0.cell 0 _ rfl, b0.cell 1 _ rfl, b0.cell 2 _ rfl, b0.cell 3 _ rfl, b0.cell 4 _ rfl, b0.cell 5 _ rfl, b1.cell 0 _ rfl, b1.cell 1 _ rfl, b1.cell 2 _ rfl, b1.cell 3 _ rfl, b1.cell 4 _ rfl, b1.cell 5 _ rfl⟩ (fun hHeld => ?_)
        clear hK K
        (try simp only [List.getElem_toArray, List.getElem_cons_succ, List.getElem_cons_zero, Act.put, List.setIfInBounds_toArray, List.set_cons_zero, List.set_cons_succ])
        refine wpAnyH_take (i := 40) (v := ?_) rfl (by kernel_rfl) (by kernel_rfl) (by kernel_rfl) (fun _ _ _ h => h) (Or.inl ⟨by rfl, ?_⟩) (by assumption) ?_
        rotate_left
        · (intro w hSw; (try dsimp only at hSw); go_simp; (try with_reducible rfl))
        (try simp only [List.getElem_toArray, List.getElem_cons_succ, List.getElem_cons_zero, Act.put, List.setIfInBounds_toArray, List.set_cons_zero, List.set_cons_succ])
        refine wpAnyH_take (i := 41) (v := ?_) rfl (by kernel_rfl) (by kernel_rfl) (by kernel_rfl) (fun _ _ _ h => h) (Or.inl ⟨by rfl, ?_⟩) (by assumption) ?_
        rotate_left
        · (intro w hSw; (try dsimp only at hSw); go_simp; (try with_reducible rfl))
        (try simp only [List.getElem_toArray, List.getElem_cons_succ, List.getElem_cons_zero, Act.put, List.setIfInBounds_toArray, List.set_cons_zero, List.set_cons_succ])
        refine wpAnyH_done (by kernel_rfl) ?_ _
        refine NoPanic.normal ?_
        go_wp2_with fail
        go_meet
        exact ⟨rfl, f0, f1, f2, f3, b0, b1, H0⟩
    · rcases r2 with ⟨rfl, r2⟩ | ⟨rfl, r2⟩ | ⟨rfl, r2⟩
      · have hz2 : decide (kz < 0) = false := decide_eq_false (by omega)
        clear r1 r2 r3
        have Hyx2 : Hid (angQ (x1 : Rat) (y1 : Rat) (x0 : Rat) (y0 : Rat) = 0) := Lib.hid Hyx.out
        clear Hyx
        have hw9 : IntKind.i64.wrap (0) = 0 := by decide
        have hD := drawn_below w12
        replace f0 := f0.below hD
        replace f1 := f1.below hD
        replace f2 := f2.below hD
        replace f3 := f3.below hD
        replace f4 := f4.below hD
        replace f5 := f5.below hD
        replace b0 := b0.below hD
        replace b1 := b1.below hD
        replace b2 := b2.below hD
        replace hT := hT.keep hD hlt
        replace hlt := Nat.lt_of_lt_of_le hlt hD.size
        replace H0 := H0.trans (hD.mono H0.size)
        clear hD
        refine wp_region_noPanic ?_
        refine wp_region_held_drew (S := (fun V => V.cell? ⟨w7.heap.size, 0, none⟩ = some (.bool s0) ∧ V.cell? ⟨w7.heap.size, 1, none⟩ = some (.slice A0 n0 c0) ∧ V.cell? ⟨w7.heap.size, 2, none⟩ = some (.slice D0 m0 e0) ∧ V.cell? ⟨w7.heap.size, 3, none⟩ = some (.bool s1) ∧ V.cell? ⟨w7.heap.size, 4, none⟩ = some (.slice A1 n1 c1) ∧ V.cell? ⟨w7.heap.size, 5, none⟩ = some (.slice D1 m1 e1) ∧ V.cell? ⟨w7.heap.size + 1, 0, none⟩ = some (.bool s2) ∧ V.cell? ⟨w7.heap.size + 1, 1, none⟩ = some (.slice A2 n2 c2) ∧ V.cell? ⟨w7.heap.size + 1, 2, none⟩ = some (.slice D2 m2 e2) ∧ V.cell? ⟨w7.heap.size + 1, 3, none⟩ = some (.bool s3) ∧ V.cell? ⟨w7.heap.size + 1, 4, none⟩ = some (.slice A3 n3 c3) ∧ V.cell? ⟨w7.heap.size + 1, 5, none⟩ = some (.slice D3 m3 e3))) (by kernel_rfl) ⟨b0.cell 0 _ rfl, b0.cell 1 _ rfl, b0.cell 2 _ rfl, b0.cell 3 _ rfl, b0.cell 4 _ rfl, b0.cell 5 _ rfl, b1.cell 0 _ rfl, b1.cell 1 _ rfl, b1.cell 2 _ rfl, b1.cell 3 _ rfl, b1.cell 4 _ rfl, b1.cell 5 _ rfl⟩ (fun hHeld => ?_)
        generalize w12.drew = v13 at H0 hHeld f0 f1 f2 f3 f4 f5 b0 b1 b2 hT hlt ⊢
        refine wpAnyH_take (i := 0) (v := ?_) rfl (by kernel_rfl) (by kernel_rfl) (by kernel_rfl) (fun _ _ _ h => h) (Or.inl ⟨by rfl, ?_⟩) (by assumption) ?_
        rotate_left
        · (intro w hSw; (try dsimp only at hSw); go_simp; (try with_reducible rfl))
        (try simp only [List.getElem_toArray, List.getElem_cons_zero, Act.put, List.setIfInBounds_toArray, List.set_cons_zero, List.set_cons_succ])
        refine wpAnyH_take (i := 1) (v := ?_) rfl (by kernel_rfl) (by kernel_rfl) (by kernel_rfl) (fun _ _ _ h => h) (Or.inl ⟨by rfl, ?_⟩) (by assumption) ?_
        rotate_left
        · (intro w hSw; (try dsimp only at hSw); go_simp; (try with_reducible rfl))
        (try simp only [List.getElem_toArray, List.getElem_cons_succ, List.getElem_cons_zero, Act.put, List.setIfInBounds_toArray, List.set_cons_zero, List.set_cons_succ])
        refine wpAnyH_take (i := 3) (v := ?_) rfl (by kernel_rfl) (by kernel_rfl) (by kernel_rfl) (fun _ _ _ h => h) (Or.inl ⟨by rfl, ?_⟩) (by assumption) ?_
        rotate_left
        · (intro w hSw; (try dsimp only at hSw); go_simp; (try with_reducible rfl))
        (try simp only [List.getElem_toArray, List.getElem_cons_succ, List.getElem_cons_zero, Act.put, List.setIfInBounds_toArray, List.set_cons_zero, List.set_cons_succ])
        refine wpAnyH_take (i := 4) (v := ?_) rfl (by kernel_rfl) (by kernel_rfl) (by kernel_rfl) (fun _ _ _ h => h) (Or.inl ⟨by rfl, ?_⟩) (by assumption) ?_
        rotate_left
        · (intro w hSw; (try dsimp only at hSw); go_simp; (try with_reducible rfl))
        (try simp only [List.getElem_toArray, List.getElem_cons_succ, List.getElem_cons_zero, Act.put, List.setIfInBounds_toArray, List.set_cons_zero, List.set_cons_succ])
        refine wpAnyH_ready (rs := [2]) (by kernel_rfl) (by simp) (AllReadyH.cons (o := _) rfl (fun K hK => ?_) AllReadyH.nil)
        go_simp
        go_at_call 41
        refine (pangle_v f2.rq f3.rq f0.rq f1.rq (by omega) (by omega) Hyx2.out).mono ?_
        rintro e w14 ⟨rfl, hb⟩
        replace f0 := f0.below hb
        replace f1 := f1.below hb
        replace f2 := f2.below hb
        replace f3 := f3.below hb
        replace f4 := f4.below hb
        replace f5 := f5.below hb
        replace b0 := b0.below hb
        replace b1 := b1.below hb
        replace b2 := b2.below hb
        replace hT := hT.keep hb hlt
        replace hlt := Nat.lt_of_lt_of_le hlt hb.size
        replace H0 := H0.trans (hb.mono H0.size)
        clear hb
        go_wp2_with fail
        refine hK.out _ _ ⟨b0.cell 0 _ rfl, b0.cell 1 _ rfl, b0.cell 2 _ rfl, b0.cell 3 _ rfl, b0.cell 4 _ rfl, b0.cell 5 _ rfl, b1.cell 0 _ rfl, b1.cell 1 _ rfl, b1.cell 2 _ rfl, b1.cell 3 _ rfl, b1.cell 4 _ rfl, b1.cell 5 _ rfl⟩ (fun hHeld => ?_)
        clear hK K
        (try simp only [List.getElem_toArray, List.getElem_cons_succ, List.getElem_cons_zero, Act.put, List.setIfInBounds_toArray, List.set_cons_zero, List.set_cons_succ])
        refine wpAnyH_take (i := 5) (v := ?_) rfl (by kernel_rfl) (by kernel_rfl) (by kernel_rfl) (fun _ _ _ h => h) (Or.inl ⟨by rfl, ?_⟩) (by assumption) ?_
        rotate_left
        · (intro w hSw; (try dsimp only at hSw); go_simp; (try with_reducible rfl))
        (try simp only [List.getElem_toArray, List.getElem_cons_succ, List.getElem_cons_zero, Act.put, List.setIfInBounds_toArray, List.set_cons_zero, List.set_cons_succ])
        refine wpAnyH_take (i := 6) (v := ?_) rfl (by kernel_rfl) (by kernel_rfl) (by kernel_rfl) (fun _ _ _ h => h) (Or.inl ⟨by rfl, ?_⟩) (by assumption) ?_
        rotate_left
        · (intro w hSw; (try dsimp only at hSw); go_simp; (try with_reducible rfl))
        (try simp only [List.getElem_toArray, List.getElem_cons_succ, List.getElem_cons_zero, Act.put, List.setIfInBounds_toArray, List.set_cons_zero, List.set_cons_succ])
        refine wpAnyH_take (i := 7) (v := ?_) rfl (by kernel_rfl) (by kernel_rfl) (by kernel_rfl) (fun _ _ _ h => h) (Or.inl ⟨by rfl, ?_⟩) (by assumption) ?_
        rotate_left
        · (intro w hSw; (try dsimp only at hSw); go_simp; (try with_reducible rfl))
        (try simp only [List.getElem_toArray, List.getElem_cons_succ, List.getElem_cons_zero, Act.put, List.setIfInBounds_toArray, List.set_cons_zero, List.set_cons_succ])
        refine wpAnyH_take (i := 8) (v := ?_) rfl (by kernel_rfl) (by kernel_rfl) (by kernel_rfl) (fun _ _ _ h => h) (Or.inl ⟨by rfl, ?_⟩) (by assumption) ?_
        rotate_left
        · (intro w hSw; (try dsimp only at hSw); go_simp; (try with_reducible rfl))
        (try simp only [List.getElem_toArray, List.getElem_cons_succ, List.getElem_cons_zero, Act.put, List.setIfInBounds_toArray, List.set_cons_zero, List.set_cons_succ])
        refine wpAnyH_take (i := 9) (v := ?_) rfl (by kernel_rfl) (by kernel_rfl) (by kernel_rfl) (fun _ _ _ h => h) (Or.inl ⟨by rfl, ?_⟩) (by assumption) ?_
        rotate_left
        · (intro w hSw; (try dsimp only at hSw); go_simp; (try with_reducible rfl))
        (try simp only [List.getElem_toArray, List.getElem_cons_succ, List.getElem_cons_zero, Act.put, List.setIfInBounds_toArray, List.set_cons_zero, List.set_cons_succ])
        refine wpAnyH_take (i := 10) (v := ?_) rfl (by kernel_rfl) (by kernel_rfl) (by kernel_rfl) (fun _ _ _ h => h) (Or.inl ⟨by rfl, ?_⟩) (by assumption) ?_
        rotate_left
        · (intro w hSw; (try dsimp only at hSw); go_simp; (try with_reducible rfl))
        (try simp only [List.getElem_toArray, List.getElem_cons_succ, List.getElem_cons_zero, Act.put, List.setIfInBounds_toArray, List.set_cons_zero, List.set_cons_succ])
        refine wpAnyH_take (i := 11) (v := ?_) rfl (by kernel_rfl) (by kernel_rfl) (by kernel_rfl) (fun _ _ _ h => h) (Or.inl ⟨by rfl, ?_⟩) (by assumption) ?_
        rotate_left
        · (intro w hSw; (try dsimp only at hSw); go_simp; (try with_reducible rfl))
        (try simp only [List.getElem_toArray, List.getElem_cons_succ, List.getElem_cons_zero, Act.put, List.setIfInBounds_toArray, List.set_cons_zero, List.set_cons_succ])
        refine wpAnyH_take (i := 12) (v := ?_) rfl (by kernel_rfl) (by kernel_rfl) (by kernel_rfl) (fun _ _ _ h => h) (Or.inl ⟨by rfl, ?_⟩) (by assumption) ?_
        rotate_left
        · (intro w hSw; (try dsimp only at hSw); go_simp; (try with_reducible rfl))
        (try simp only [List.getElem_toArray, List.getElem_cons_succ, List.getElem_cons_zero, Act.put, List.setIfInBounds_toArray, List.set_cons_zero, List.set_cons_succ])
        refine wpAnyH_take (i := 13) (v := ?_) rfl (by kernel_rfl) (by kernel_rfl) (by kernel_rfl) (fun _ _ _ h => h) (Or.inl ⟨by rfl, ?_⟩) (by assumption) ?_
        rotate_left
        · (intro w hSw; (try dsimp only at hSw); go_simp; (try with_reducible rfl))
        (try simp only [List.getElem_toArray, List.getElem_cons_succ, List.getElem_cons_zero, Act.put, List.setIfInBounds_toArray, List.set_cons_zero, List.set_cons_succ])
        refine wpAnyH_take (i := 14) (v := undef) rfl (by kernel_rfl) (by kernel_rfl) (by kernel_rfl) (fun _ _ _ h => h) (Or.inr ⟨by rfl, rfl⟩) (by assumption) ?_
        (try simp only [List.getElem_toArray, List.getElem_cons_succ, List.getElem_cons_zero, Act.put, List.setIfInBounds_toArray, List.set_cons_zero, List.set_cons_succ])
        refine wpAnyH_take (i := 15) (v := undef) rfl (by kernel_rfl) (by kernel_rfl) (by kernel_rfl) (fun _ _ _ h => h) (Or.inr ⟨by rfl, rfl⟩) (by assumption) ?_
        (try simp only [List.getElem_toArray, List.getElem_cons_succ, List.getElem_cons_zero, Act.put, List.setIfInBounds_toArray, List.set_cons_zero, List.set_cons_succ])
        refine wpAnyH_take (i := 16) (v := ?_) rfl (by kernel_rfl) (by kernel_rfl) (by kernel_rfl) (fun _ _ _ h => h) (Or.inl ⟨by rfl, ?_⟩) (by assumption) ?_
        rotate_left
        · (intro w hSw; (try dsimp only at hSw); go_simp; (try with_reducible rfl))
        (try simp only [List.getElem_toArray, List.getElem_cons_succ, List.getElem_cons_zero, Act.put, List.setIfInBounds_toArray, List.set_cons_zero, List.set_cons_succ])
        refine wpAnyH_take (i := 17) (v := ?_) rfl (by kernel_rfl) (by kernel_rfl) (by kernel_rfl) (fun _ _ _ h => h) (Or.inl ⟨by rfl, ?_⟩) (by assumption) ?_
        rotate_left
        · (intro w hSw; (try dsimp only at hSw); go_simp; (try with_reducible rfl))
        (try simp only [List.getElem_toArray, List.getElem_cons_succ, List.getElem_cons_zero, Act.put, List.setIfInBounds_toArray, List.set_cons_zero, List.set_cons_succ])
        refine wpAnyH_take (i := 18) (v := ?_) rfl (by kernel_rfl) (by kernel_rfl) (by kernel_rfl) (fun _ _ _ h => h) (Or.inl ⟨by rfl, ?_⟩) (by assumption) ?_
        rotate_left
        · (intro w hSw; (try dsimp only at hSw); go_simp; (try with_reducible rfl))
        (try simp only [List.getElem_toArray, List.getElem_cons_succ, List.getElem_cons_zero, Act.put, List.setIfInBounds_toArray, List.set_cons_zero, List.set_cons_succ])
        refine wpAnyH_take (i := 19) (v := ?_) rfl (by kernel_rfl) (by kernel_rfl) (by kernel_rfl) (fun _ _ _ h => h) (Or.inl ⟨by rfl, ?_⟩) (by assumption) ?_
        rotate_left
        · (intro w hSw; (try dsimp only at hSw); go_simp; (try with_reducible rfl))
        (try simp only [List.getElem_toArray, List.getElem_cons_succ, List.getElem_cons_zero, Act.put, List.setIfInBounds_toArray, List.set_cons_zero, List.set_cons_succ])
        refine wpAnyH_take (i := 20) (v := ?_) rfl (by kernel_rfl) (by kernel_rfl) (by kernel_rfl) (fun _ _ _ h => h) (Or.inl ⟨by rfl, ?_⟩) (by assumption) ?_
        rotate_left
        · (intro w hSw; (try dsimp only at hSw); go_simp; (try with_reducible rfl))
        (try simp only [List.getElem_toArray, List.getElem_cons_succ, List.getElem_cons_zero, Act.put, List.setIfInBounds_toArray, List.set_cons_zero, List.set_cons_succ])
        refine wpAnyH_take (i := 21) (v := ?_) rfl (by kernel_rfl) (by kernel_rfl) (by kernel_rfl) (fun _ _ _ h => h) (Or.inl ⟨by rfl, ?_⟩) (by assumption) ?_
        rotate_left
        · (intro w hSw; (try dsimp only at hSw); go_simp; (try with_reducible rfl))
        (try simp only [List.getElem_toArray, List.getElem_cons_succ, List.getElem_cons_zero, Act.put, List.setIfInBounds_toArray, List.set_cons_zero, List.set_cons_succ])
        refine wpAnyH_take (i := 22) (v := ?_) rfl (by kernel_rfl) (by kernel_rfl) (by kernel_rfl) (fun _ _ _ h => h) (Or.inl ⟨by rfl, ?_⟩) (by assumption) ?_
        rotate_left
        · (intro w hSw; (try dsimp only at hSw); go_simp; (try with_reducible rfl))
        (try simp only [List.getElem_toArray, List.getElem_cons_succ, List.getElem_cons_zero, Act.put, List.setIfInBounds_toArray, List.set_cons_zero, List.set_cons_succ])
        refine wpAnyH_take (i := 23) (v := ?_) rfl (by kernel_rfl) (by kernel_rfl) (by kernel_rfl) (fun _ _ _ h => h) (Or.inl ⟨by rfl, ?_⟩) (by assumption) ?_
        rotate_left
        · (intro w hSw; (try dsimp only at hSw); go_simp; (try with_reducible rfl))
        (try simp only [List.getElem_toArray, List.getElem_cons_succ, List.getElem_cons_zero, Act.put, List.setIfInBounds_toArray, List.set_cons_zero, List.set_cons_succ])
        refine wpAnyH_take (i := 24) (v := ?_) rfl (by kernel_rfl) (by kernel_rfl) (by kernel_rfl) (fun _ _ _ h => h) (Or.inl ⟨by rfl, ?_⟩) (by assumption) ?_
        rotate_left
        · (intro w hSw; (try dsimp only at hSw); go_simp; (try with_reducible rfl))
        (try simp only [List.getElem_toArray, List.getElem_cons_succ, List.getElem_cons_zero, Act.put, List.setIfInBounds_toArray, List.set_cons_zero, List.set_cons_succ])
        refine wpAnyH_take (i := 25) (v := ?_) rfl (by kernel_rfl) (by kernel_rfl) (by kernel_rfl) (fun _ _ _ h => h) (Or.inl ⟨by rfl, ?_⟩) (by assumption) ?_
        rotate_left
        · (intro w hSw; (try dsimp only at hSw); go_simp; (try with_reducible rfl))
        (try simp only [List.getElem_toArray, List.getElem_cons_succ, List.getElem_cons_zero, Act.put, List.setIfInBounds_toArray, List.set_cons_zero, List.set_cons_succ])
        refine wpAnyH_take (i := 26) (v := ?_) rfl (by kernel_rfl) (by kernel_rfl) (by kernel_rfl) (fun _ _ _ h => h) (Or.inl ⟨by rfl, ?_⟩) (by assumption) ?_
        rotate_left
        · (intro w hSw; (try dsimp only at hSw); go_simp; (try with_reducible rfl))
        (try simp only [List.getElem_toArray, List.getElem_cons_succ, List.getElem_cons_zero, Act.put, List.setIfInBounds_toArray, List.set_cons_zero, List.set_cons_succ])
        refine wpAnyH_take (i := 27) (v := ?_) rfl (by kernel_rfl) (by kernel_rfl) (by kernel_rfl) (fun _ _ _ h => h) (Or.inl ⟨by rfl, ?_⟩) (by assumption) ?_
        rotate_left
        · (intro w hSw; (try dsimp only at hSw); go_simp; (try with_reducible rfl))
        (try simp only [List.getElem_toArray, List.getElem_cons_succ, List.getElem_cons_zero, Act.put, List.setIfInBounds_toArray, List.set_cons_zero, List.set_cons_succ])
        refine wpAnyH_take (i := 28) (v := ?_) rfl (by kernel_rfl) (by kernel_rfl) (by kernel_rfl) (fun _ _ _ h => h) (Or.inl ⟨by rfl, ?_⟩) (by assumption) ?_
        rotate_left
        · (intro w hSw; (try dsimp only at hSw); go_simp; (try with_reducible rfl))
        (try simp only [List.getElem_toArray, List.getElem_cons_succ, List.getElem_cons_zero, Act.put, List.setIfInBounds_toArray, List.set_cons_zero, List.set_cons_succ])
        refine wpAnyH_take (i := 29) (v := ?_) rfl (by kernel_rfl) (by kernel_rfl) (by kernel_rfl) (fun _ _ _ h => h) (Or.inl ⟨by rfl, ?_⟩) (by assumption) ?_
        rotate_left
        · (intro w hSw; (try dsimp only at hSw); go_simp; (try with_reducible rfl))
        (try simp only [List.getElem_toArray, List.getElem_cons_succ, List.getElem_cons_zero, Act.put, List.setIfInBounds_toArray, List.set_cons_zero, List.set_cons_succ])
        refine wpAnyH_take (i := 30) (v := ?_) rfl (by kernel_rfl) (by kernel_rfl) (by kernel_rfl) (fun _ _ _ h => h) (Or.inl ⟨by rfl, ?_⟩) (by assumption) ?_
        rotate_left
        · (intro w hSw; (try dsimp only at hSw); go_simp; (try with_reducible rfl))
        (try simp only [List.getElem_toArray, List.getElem_cons_succ, List.getElem_cons_zero, Act.put, List.setIfInBounds_toArray, List.set_cons_zero, List.set_cons_succ])
        refine wpAnyH_take (i := 31) (v := ?_) rfl (by kernel_rfl) (by kernel_rfl) (by kernel_rfl) (fun _ _ _ h => h) (Or.inl ⟨by rfl, ?_⟩) (by assumption) ?_
        rotate_left
        · (intro w hSw; (try dsimp only at hSw); go_simp; (try with_reducible rfl))
        (try simp only [List.getElem_toArray, List.getElem_cons_succ, List.getElem_cons_zero, Act.put, List.setIfInBounds_toArray, List.set_cons_zero, List.set_cons_succ])
        refine wpAnyH_take (i := 32) (v := ?_) rfl (by kernel_rfl) (by kernel_rfl) (by kernel_rfl) (fun _ _ _ h => h) (Or.inl ⟨by rfl, ?_⟩) (by assumption) ?_
        rotate_left
        · (intro w hSw; (try dsimp only at hSw); go_simp; (try with_reducible rfl))
        (try simp only [List.getElem_toArray, List.getElem_cons_succ, List.getElem_cons_zero, Act.put, List.setIfInBounds_toArray, List.set_cons_zero, List.set_cons_succ])
        refine wpAnyH_take (i := 37) (v := ?_) rfl (by kernel_rfl) (by kernel_rfl) (by kernel_rfl) (fun _ _ _ h => h) (Or.inl ⟨by rfl, ?_⟩) (by assumption) ?_
        rotate_left
        · (intro w hSw; (try dsimp only at hSw); go_simp; (try with_reducible rfl))
        (try simp only [List.getElem_toArray, List.getElem_cons_succ, List.getElem_cons_zero, Act.put, List.setIfInBounds_toArray, List.set_cons_zero, List.set_cons_succ])
        refine wpAnyH_ready (rs := [33]) (by kernel_rfl) (by simp) (AllReadyH.cons (o := _) rfl (fun K hK => ?_) AllReadyH.nil)
        go_simp
        go_at_call 36
        refine (next_any 9 (by omega) (by omega) hT).mono ?_
        rintro e w15 ⟨r, rfl, hr, hT', hg⟩
        replace f0 := f0.tape hT hg
        replace f1 := f1.tape hT hg
        replace f2 := f2.tape hT hg
        replace f3 := f3.tape hT hg
        replace f4 := f4.tape hT hg
        replace f5 := f5.tape hT hg
        replace b0 := b0.other hg (by omega)
        replace b1 := b1.other hg (by omega)
        replace b2 := b2.other hg (by omega)
        replace hlt := Nat.lt_of_lt_of_le hlt hg.size
        replace H0 := H0.grown hg H0.size (by rintro k hk; injection hk with hk; omega)
        clear hT
        have hT := hT'
        clear hT' hg
        have wr := wrap1 hr
        clear hT hlt
        go_wp2_with fail
        refine hK.out _ _ ⟨b0.cell 0 _ rfl, b0.cell 1 _ rfl, b0.cell 2 _ rfl, b0.cell 3 _ rfl, b0.cell 4 _ rfl, b0.cell 5 _ rfl, b1.cell 0 _ rfl, b1.cell 1 _ rfl, b1.cell 2 _ rfl, b1.cell 3 _ rfl, b1.cell 4 _ rfl, b1.cell 5 _ rfl⟩ (fun hHeld => ?_)
        clear hK K
        (try simp only [List.getElem_toArray, List.getElem_cons_succ, List.getElem_cons_zero, Act.put, List.setIfInBounds_toArray, List.set_cons_zero, List.set_cons_succ])
        refine wpAnyH_take (i := 34) (v := ?_) rfl (by kernel_rfl) (by kernel_rfl) (by kernel_rfl) (fun _ _ _ h => h) (Or.inl ⟨by rfl, ?_⟩) (by assumption) ?_
        rotate_left
        · (intro w hSw; (try dsimp only at hSw); go_simp; (try with_reducible rfl))
        (try simp only [List.getElem_toArray, List.getElem_cons_succ, List.getElem_cons_zero, Act.put, List.setIfInBounds_toArray, List.set_cons_zero, List.set_cons_succ])
        refine wpAnyH_ready (rs := [35]) (by kernel_rfl) (by simp) (AllReadyH.cons (o := _) rfl (fun K hK => ?_) AllReadyH.nil)
        go_simp
        go_at_call 48
        refine (npart_v (d := 4) (1 + (r : Int)) (by omega) (by omega) (by omega)).mono ?_
        rintro e w16 ⟨s8, A8, n8, c8, D8, m8, e8, rfl, p8, hb⟩
        replace f0 := f0.below hb
        replace f1 := f1.below hb
        replace f2 := f2.below hb
        replace f3 := f3.below hb
        replace f4 := f4.below hb
        replace f5 := f5.below hb
        replace b0 := b0.below hb
        replace b1 := b1.below hb
        replace b2 := b2.below hb
        replace H0 := H0.trans (hb.mono H0.size)
        clear hb
        go_wp2_with fail
        refine hK.out _ _ ⟨b0.cell 0 _ rfl, b0.cell 1 _ rfl, b0.cell 2 _ rfl, b0.cell 3 _ rfl, b0.cell 4 _ rfl, b0.cell 5 _ rfl, b1.cell 0 _ rfl, b1.cell 1 _ rfl, b1.cell 2 _ rfl, b1.cell 3 _ rfl, b1.cell 4 _ rfl, b1.cell 5 _ rfl⟩ (fun hHeld => ?_)
        clear hK K
        (try simp only [List.getElem_toArray, List.getElem_cons_succ, List.getElem_cons_zero, Act.put, List.setIfInBounds_toArray, List.set_cons_zero, List.set_cons_succ])
        refine wpAnyH_ready (rs := [36]) (by kernel_rfl) (by simp) (AllReadyH.cons (o := _) rfl (fun K hK => ?_) AllReadyH.nil)
        go_simp
        go_at_call 30
        refine (toq_v p8 (by omega)).mono ?_
        rintro e w17 ⟨s9, A9, n9, c9, D9, m9, e9, rfl, p9, hb⟩
        replace f0 := f0.below hb
        replace f1 := f1.below hb
        replace f2 := f2.below hb
        replace f3 := f3.below hb
        replace f4 := f4.below hb
        replace f5 := f5.below hb
        replace p8 := p8.below hb
        replace b0 := b0.below hb
        replace b1 := b1.below hb
        replace b2 := b2.below hb
        replace H0 := H0.trans (hb.mono H0.size)
        clear hb
        clear p8
        go_wp2_with fail
        refine hK.out _ _ ⟨b0.cell 0 _ rfl, b0.cell 1 _ rfl, b0.cell 2 _ rfl, b0.cell 3 _ rfl, b0.cell 4 _ rfl, b0.cell 5 _ rfl, b1.cell 0 _ rfl, b1.cell 1 _ rfl, b1.cell 2 _ rfl, b1.cell 3 _ rfl, b1.cell 4 _ rfl, b1.cell 5 _ rfl⟩ (fun hHeld => ?_)
        clear hK K
        (try simp only [List.getElem_toArray, List.getElem_cons_succ, List.getElem_cons_zero, Act.put, List.setIfInBounds_toArray, List.set_cons_zero, List.set_cons_succ])
        refine wpAnyH_ready (rs := [38]) (by kernel_rfl) (by simp) (AllReadyH.cons (o := _) rfl (fun K hK => ?_) AllReadyH.nil)
        go_simp
        go_at_call 27
        refine (pscale_v p9.rq f0.rq f1.rq (by omega) (by omega)).mono ?_
        rintro e w18 ⟨s10, A10, n10, c10, D10, m10, e10, s11, A11, n11, c11, D11, m11, e11, rfl, p10, p11, hb⟩
        replace f0 := f0.below hb
        replace f1 := f1.below hb
        replace f2 := f2.below hb
        replace f3 := f3.below hb
        replace f4 := f4.below hb
        replace f5 := f5.below hb
        replace p9 := p9.below hb
        replace b0 := b0.below hb
        replace b1 := b1.below hb
        replace b2 := b2.below hb
        replace H0 := H0.trans (hb.mono H0.size)
        clear hb
        clear p9
        go_wp2_with fail
        refine hK.out _ _ ⟨b0.cell 0 _ rfl, b0.cell 1 _ rfl, b0.cell 2 _ rfl, b0.cell 3 _ rfl, b0.cell 4 _ rfl, b0.cell 5 _ rfl, b1.cell 0 _ rfl, b1.cell 1 _ rfl, b1.cell 2 _ rfl, b1.cell 3 _ rfl, b1.cell 4 _ rfl, b1.cell 5 _ rfl⟩ (fun hHeld => ?_)
        clear hK K
        (try simp only [List.getElem_toArray, List.getElem_cons_succ, List.getElem_cons_zero, Act.put, List.setIfInBounds_toArray, List.set_cons_zero, List.set_cons_succ])
        refine wpAnyH_ready (rs := [39]) (by kernel_rfl) (by simp) (AllReadyH.cons (o := _) rfl (fun K hK => ?_) AllReadyH.nil)
        go_simp
        go_at_call 41
        refine (pangle_v f0.rq f1.rq p10.rq p11.rq (by omega) (by omega) (ang_scale _ _ _ (part_pos r))).mono ?_
        rintro e w19 ⟨rfl, hb⟩
        replace f0 := f0.below hb
        replace f1 := f1.below hb
        replace f2 := f2.below hb
        replace f3 := f3.below hb
        replace f4 := f4.below hb
        replace f5 := f5.below hb
        replace p10 := p10.below hb
        replace p11 := p11.below hb
        replace b0 := b0.below hb
        replace b1 := b1.below hb
        replace b2 := b2.below hb
        replace H0 := H0.trans (hb.mono H0.size)
        clear hb
        clear p10
        clear p11
        go_wp2_with fail
        refine hK.out _ _ ⟨b0.cell 0 _ rfl, b0.cell 1 _ rfl, b0.cell 2 _ rfl, b0.cell 3 _ rfl, b0.cell 4 _ rfl, b0.cell 5 _ rfl, b1.cell 0 _ rfl, b1.cell 1 _ rfl, b1.cell 2 _ rfl, b1.cell 3 _ rfl, b1.cell 4 _ rfl, b1.cell 5 _ rfl⟩ (fun hHeld => ?_)
        clear hK K
        (try simp only [List.getElem_toArray, List.getElem_cons_succ, List.getElem_cons_zero, Act.put, List.setIfInBounds_toArray, List.set_cons_zero, List.set_cons_succ])
        refine wpAnyH_take (i := 40) (v := ?_) rfl (by kernel_rfl) (by kernel_rfl) (by kernel_rfl) (fun _ _ _ h => h) (Or.inl ⟨by rfl, ?_⟩) (by assumption) ?_
        rotate_left
        · (intro w hSw; (try dsimp only at hSw); go_simp; (try with_reducible rfl))
        (try simp only [List.getElem_toArray, List.getElem_cons_succ, List.getElem_cons_zero, Act.put, List.setIfInBounds_toArray, List.set_cons_zero, List.set_cons_succ])
        refine wpAnyH_take (i := 41) (v := ?_) rfl (by kernel_rfl) (by kernel_rfl) (by kernel_rfl) (fun _ _ _ h => h) (Or.inl ⟨by rfl, ?_⟩) (by assumption) ?_
        rotate_left
        · (intro w hSw; (try dsimp only at hSw); go_simp; (try with_reducible rfl))
        (try simp only [List.getElem_toArray, List.getElem_cons_succ, List.getElem_cons_zero, Act.put, List.setIfInBounds_toArray, List.set_cons_zero, List.set_cons_succ])
        refine wpAnyH_done (by kernel_rfl) ?_ _
        refine NoPanic.normal ?_
        go_wp2_with fail
        go_meet
        exact ⟨rfl, f0, f1, f2, f3, b0, b1, H0⟩
      · have hz1 : decide (0 < kz) = false := decide_eq_false (by omega)
        have hz2 : decide (kz < 0) = false := decide_eq_false (by omega)
        clear r1 r2 r3
        have Hyx2 : Hid (angQ (x1 : Rat) (y1 : Rat) (x0 : Rat) (y0 : Rat) = 0) := Lib.hid Hyx.out
        clear Hyx
        have hw9 : IntKind.i64.wrap (0) = 0 := by decide
        have hD := drawn_below w12
        replace f0 := f0.below hD
        replace f1 := f1.below hD
        replace f2 := f2.below hD
        replace f3 := f3.below hD
        replace f4 := f4.below hD
        replace f5 := f5.below hD
        replace b0 := b0.below hD
        replace b1 := b1.below hD
        replace b2 := b2.below hD
        replace hT := hT.keep hD hlt
        replace hlt := Nat.lt_of_lt_of_le hlt hD.size
        replace H0 := H0.trans (hD.mono H0.size)
        clear hD
        refine wp_region_noPanic ?_
        refine wp_region_held_drew (S := (fun V => V.cell? ⟨w7.heap.size, 0, none⟩ = some (.bool s0) ∧ V.cell? ⟨w7.heap.size, 1, none⟩ = some (.slice A0 n0 c0) ∧ V.cell? ⟨w7.heap.size, 2, none⟩ = some (.slice D0 m0 e0) ∧ V.cell? ⟨w7.heap.size, 3, none⟩ = some (.bool s1) ∧ V.cell? ⟨w7.heap.size, 4, none⟩ = some (.slice A1 n1 c1) ∧ V.cell? ⟨w7.heap.size, 5, none⟩ = some (.slice D1 m1 e1) ∧ V.cell? ⟨w7.heap.size + 1, 0, none⟩ = some (.bool s2) ∧ V.cell? ⟨w7.heap.size + 1, 1, none⟩ = some (.slice A2 n2 c2) ∧ V.cell? ⟨w7.heap.size + 1, 2, none⟩ = some (.slice D2 m2 e2) ∧ V.cell? ⟨w7.heap.size + 1, 3, none⟩ = some (.bool s3) ∧ V.cell? ⟨w7.heap.size + 1, 4, none⟩ = some (.slice A3 n3 c3) ∧ V.cell? ⟨w7.heap.size + 1, 5, none⟩ = some (.slice D3 m3 e3))) (by kernel_rfl) ⟨b0.cell 0 _ rfl, b0.cell 1 _ rfl, b0.cell 2 _ rfl, b0.cell 3 _ rfl, b0.cell 4 _ rfl, b0.cell 5 _ rfl, b1.cell 0 _ rfl, b1.cell 1 _ rfl, b1.cell 2 _ rfl, b1.cell 3 _ rfl, b1.cell 4 _ rfl, b1.cell 5 _ rfl⟩ (fun hHeld => ?_)
        generalize w12.drew = v13 at H0 hHeld f0 f1 f2 f3 f4 f5 b0 b1 b2 hT hlt ⊢
        refine wpAnyH_take (i := 0) (v := ?_) rfl (by kernel_rfl) (by kernel_rfl) (by kernel_rfl) (fun _ _ _ h => h) (Or.inl ⟨by rfl, ?_⟩) (by assumption) ?_
        rotate_left
        · (intro w hSw; (try dsimp only at hSw); go_simp; (try with_reducible rfl))
        (try simp only [List.getElem_toArray, List.getElem_cons_zero, Act.put, List.setIfInBounds_toArray, List.set_cons_zero, List.set_cons_succ])
        refine wpAnyH_take (i := 1) (v := ?_) rfl (by kernel_rfl) (by kernel_rfl) (by kernel_rfl) (fun _ _ _ h => h) (Or.inl ⟨by rfl, ?_⟩) (by assumption) ?_
        rotate_left
        · (intro w hSw; (try dsimp only at hSw); go_simp; (try with_reducible rfl))
        (try simp only [List.getElem_toArray, List.getElem_cons_succ, List.getElem_cons_zero, Act.put, List.setIfInBounds_toArray, List.set_cons_zero, List.set_cons_succ])
        refine wpAnyH_take (i := 3) (v := ?_) rfl (by kernel_rfl) (by kernel_rfl) (by kernel_rfl) (fun _ _ _ h => h) (Or.inl ⟨by rfl, ?_⟩) (by assumption) ?_
        rotate_left
        · (intro w hSw; (try dsimp only at hSw); go_simp; (try with_reducible rfl))
        (try simp only [List.getElem_toArray, List.getElem_cons_succ, List.getElem_cons_zero, Act.put, List.setIfInBounds_toArray, List.set_cons_zero, List.set_cons_succ])
        refine wpAnyH_take (i := 4) (v := ?_) rfl (by kernel_rfl) (by kernel_rfl) (by kernel_rfl) (fun _ _ _ h => h) (Or.inl ⟨by rfl, ?_⟩) (by assumption) ?_
        rotate_left
        · (intro w hSw; (try dsimp only at hSw); go_simp; (try with_reducible rfl))
        (try simp only [List.getElem_toArray, List.getElem_cons_succ, List.getElem_cons_zero, Act.put, List.setIfInBounds_toArray, List.set_cons_zero, List.set_cons_succ])
        refine wpAnyH_ready (rs := [2]) (by kernel_rfl) (by simp) (AllReadyH.cons (o := _) rfl (fun K hK => ?_) AllReadyH.nil)
        go_simp
        go_at_call 41
        refine (pangle_v f2.rq f3.rq f0.rq f1.rq (by omega) (by omega) Hyx2.out).mono ?_
        rintro e w14 ⟨rfl, hb⟩
        replace f0 := f0.below hb
        replace f1 := f1.below hb
        replace f2 := f2.below hb
        replace f3 := f3.below hb
        replace f4 := f4.below hb
        replace f5 := f5.below hb
        replace b0 := b0.below hb
        replace b1 := b1.below hb
        replace b2 := b2.below hb
        replace hT := hT.keep hb hlt
        replace hlt := Nat.lt_of_lt_of_le hlt hb.size
        replace H0 := H0.trans (hb.mono H0.size)
        clear hb
        go_wp2_with fail
        refine hK.out _ _ ⟨b0.cell 0 _ rfl, b0.cell 1 _ rfl, b0.cell 2 _ rfl, b0.cell 3 _ rfl, b0.cell 4 _ rfl, b0.cell 5 _ rfl, b1.cell 0 _ rfl, b1.cell 1 _ rfl, b1.cell 2 _ rfl, b1.cell 3 _ rfl, b1.cell 4 _ rfl, b1.cell 5 _ rfl⟩ (fun hHeld => ?_)
        clear hK K
        (try simp only [List.getElem_toArray, List.getElem_cons_succ, List.getElem_cons_zero, Act.put, List.setIfInBounds_toArray, List.set_cons_zero, List.set_cons_succ])
        refine wpAnyH_take (i := 5) (v := ?_) rfl (by kernel_rfl) (by kernel_rfl) (by kernel_rfl) (fun _ _ _ h => h) (Or.inl ⟨by rfl, ?_⟩) (by assumption) ?_
        rotate_left
        · (intro w hSw; (try dsimp only at hSw); go_simp; (try with_reducible rfl))
        (try simp only [List.getElem_toArray, List.getElem_cons_succ, List.getElem_cons_zero, Act.put, List.setIfInBounds_toArray, List.set_cons_zero, List.set_cons_succ])
        refine wpAnyH_take (i := 6) (v := ?_) rfl (by kernel_rfl) (by kernel_rfl) (by kernel_rfl) (fun _ _ _ h => h) (Or.inl ⟨by rfl, ?_⟩) (by assumption) ?_
        rotate_left
        · (intro w hSw; (try dsimp only at hSw); go_simp; (try with_reducible rfl))
        (try simp only [List.getElem_toArray, List.getElem_cons_succ, List.getElem_cons_zero, Act.put, List.setIfInBounds_toArray, List.set_cons_zero, List.set_cons_succ])
        refine wpAnyH_take (i := 7) (v := ?_) rfl (by kernel_rfl) (by kernel_rfl) (by kernel_rfl) (fun _ _ _ h => h) (Or.inl ⟨by rfl, ?_⟩) (by assumption) ?_
        rotate_left
        · (intro w hSw; (try dsimp only at hSw); go_simp; (try with_reducible rfl))
        (try simp only [List.getElem_toArray, List.getElem_cons_succ, List.getElem_cons_zero, Act.put, List.setIfInBounds_toArray, List.set_cons_zero, List.set_cons_succ])
        refine wpAnyH_take (i := 8) (v := ?_) rfl (by kernel_rfl) (by kernel_rfl) (by kernel_rfl) (fun _ _ _ h => h) (Or.inl ⟨by rfl, ?_⟩) (by assumption) ?_
        rotate_left
        · (intro w hSw; (try dsimp only at hSw); go_simp; (try with_reducible rfl))
        (try simp only [List.getElem_toArray, List.getElem_cons_succ, List.getElem_cons_zero, Act.put, List.setIfInBounds_toArray, List.set_cons_zero, List.set_cons_succ])
        refine wpAnyH_take (i := 9) (v := ?_) rfl (by kernel_rfl) (by kernel_rfl) (by kernel_rfl) (fun _ _ _ h => h) (Or.inl ⟨by rfl, ?_⟩) (by assumption) ?_
        rotate_left
        · (intro w hSw; (try dsimp only at hSw); go_simp; (try with_reducible rfl))
        (try simp only [List.getElem_toArray, List.getElem_cons_succ, List.getElem_cons_zero, Act.put, List.setIfInBounds_toArray, List.set_cons_zero, List.set_cons_succ])
        refine wpAnyH_take (i := 10) (v := ?_) rfl (by kernel_rfl) (by kernel_rfl) (by kernel_rfl) (fun _ _ _ h => h) (Or.inl ⟨by rfl, ?_⟩) (by assumption) ?_
        rotate_left
        · (intro w hSw; (try dsimp only at hSw); go_simp; (try with_reducible rfl))
        (try simp only [List.getElem_toArray, List.getElem_cons_succ, List.getElem_cons_zero, Act.put, List.setIfInBounds_toArray, List.set_cons_zero, List.set_cons_succ])
        refine wpAnyH_take (i := 11) (v := ?_) rfl (by kernel_rfl) (by kernel_rfl) (by kernel_rfl) (fun _ _ _ h => h) (Or.inl ⟨by rfl, ?_⟩) (by assumption) ?_
        rotate_left
        · (intro w hSw; (try dsimp only at hSw); go_simp; (try with_reducible rfl))
        (try simp only [List.getElem_toArray, List.getElem_cons_succ, List.getElem_cons_zero, Act.put, List.setIfInBounds_toArray, List.set_cons_zero, List.set_cons_succ])
        refine wpAnyH_take (i := 12) (v := ?_) rfl (by kernel_rfl) (by kernel_rfl) (by kernel_rfl) (fun _ _ _ h => h) (Or.inl ⟨by rfl, ?_⟩) (by assumption) ?_
        rotate_left
        · (intro w hSw; (try dsimp only at hSw); go_simp; (try with_reducible rfl))
        (try simp only [List.getElem_toArray, List.getElem_cons_succ, List.getElem_cons_zero, Act.put, List.setIfInBounds_toArray, List.set_cons_zero, List.set_cons_succ])
        refine wpAnyH_take (i := 13) (v := ?_) rfl (by kernel_rfl) (by kernel_rfl) (by kernel_rfl) (fun _ _ _ h => h) (Or.inl ⟨by rfl, ?_⟩) (by assumption) ?_
        rotate_left
        · (intro w hSw; (try dsimp only at hSw); go_simp; (try with_reducible rfl))
        (try simp only [List.getElem_toArray, List.getElem_cons_succ, List.getElem_cons_zero, Act.put, List.setIfInBounds_toArray, List.set_cons_zero, List.set_cons_succ])
        refine wpAnyH_take (i := 14) (v := ?_) rfl (by kernel_rfl) (by kernel_rfl) (by kernel_rfl) (fun _ _ _ h => h) (Or.inl ⟨by rfl, ?_⟩) (by assumption) ?_
        rotate_left
        · (intro w hSw; (try dsimp only at hSw); go_simp; (try with_reducible rfl))
        (try simp only [List.getElem_toArray, List.getElem_cons_succ, List.getElem_cons_zero, Act.put, List.setIfInBounds_toArray, List.set_cons_zero, List.set_cons_succ])
        refine wpAnyH_take (i := 15) (v := ?_) rfl (by kernel_rfl) (by kernel_rfl) (by kernel_rfl) (fun _ _ _ h => h) (Or.inl ⟨by rfl, ?_⟩) (by assumption) ?_
        rotate_left
        · (intro w hSw; (try dsimp only at hSw); go_simp; (try with_reducible rfl))
        (try simp only [List.getElem_toArray, List.getElem_cons_succ, List.getElem_cons_zero, Act.put, List.setIfInBounds_toArray, List.set_cons_zero, List.set_cons_succ])
        refine wpAnyH_take (i := 16) (v := ?_) rfl (by kernel_rfl) (by kernel_rfl) (by kernel_rfl) (fun _ _ _ h => h) (Or.inl ⟨by rfl, ?_⟩) (by assumption) ?_
        rotate_left
        · (intro w hSw; (try dsimp only at hSw); go_simp; (try with_reducible rfl))
        (try simp only [List.getElem_toArray, List.getElem_cons_succ, List.getElem_cons_zero, Act.put, List.setIfInBounds_toArray, List.set_cons_zero, List.set_cons_succ])
        refine wpAnyH_take (i := 17) (v := ?_) rfl (by kernel_rfl) (by kernel_rfl) (by kernel_rfl) (fun _ _ _ h => h) (Or.inl ⟨by rfl, ?_⟩) (by assumption) ?_
        rotate_left
        · (intro w hSw; (try dsimp only at hSw); go_simp; (try with_reducible rfl))
        (try simp only [List.getElem_toArray, List.getElem_cons_succ, List.getElem_cons_zero, Act.put, List.setIfInBounds_toArray, List.set_cons_zero, List.set_cons_succ])
        refine wpAnyH_take (i := 18) (v := ?_) rfl (by kernel_rfl) (by kernel_rfl) (by kernel_rfl) (fun _ _ _ h => h) (Or.inl ⟨by rfl, ?_⟩) (by assumption) ?_
        rotate_left
        · (intro w hSw; (try dsimp only at hSw); go_simp; (try with_reducible rfl))
        (try simp only [List.getElem_toArray, List.getElem_cons_succ, List.getElem_cons_zero, Act.put, List.setIfInBounds_toArray, List.set_cons_zero, List.set_cons_succ])
        refine wpAnyH_take (i := 19) (v := ?_) rfl (by kernel_rfl) (by kernel_rfl) (by kernel_rfl) (fun _ _ _ h => h) (Or.inl ⟨by rfl, ?_⟩) (by assumption) ?_
        rotate_left
        · (intro w hSw; (try dsimp only at hSw); go_simp; (try with_reducible rfl))
        (try simp only [List.getElem_toArray, List.getElem_cons_succ, List.getElem_cons_zero, Act.put, List.setIfInBounds_toArray, List.set_cons_zero, List.set_cons_succ])
        refine wpAnyH_take (i := 20) (v := ?_) rfl (by kernel_rfl) (by kernel_rfl) (by kernel_rfl) (fun _ _ _ h => h) (Or.inl ⟨by rfl, ?_⟩) (by assumption) ?_
        rotate_left
        · (intro w hSw; (try dsimp only at hSw); go_simp; (try with_reducible rfl))
        (try simp only [List.getElem_toArray, List.getElem_cons_succ, List.getElem_cons_zero, Act.put, List.setIfInBounds_toArray, List.set_cons_zero, List.set_cons_succ])
        refine wpAnyH_take (i := 21) (v := ?_) rfl (by kernel_rfl) (by kernel_rfl) (by kernel_rfl) (fun _ _ _ h => h) (Or.inl ⟨by rfl, ?_⟩) (by assumption) ?_
        rotate_left
        · (intro w hSw; (try dsimp only at hSw); go_simp; (try with_reducible rfl))
        (try simp only [List.getElem_toArray, List.getElem_cons_succ, List.getElem_cons_zero, Act.put, List.setIfInBounds_toArray, List.set_cons_zero, List.set_cons_succ])
        refine wpAnyH_take (i := 22) (v := ?_) rfl (by kernel_rfl) (by kernel_rfl) (by kernel_rfl) (fun _ _ _ h => h) (Or.inl ⟨by rfl, ?_⟩) (by assumption) ?_
        rotate_left
        · (intro w hSw; (try dsimp only at hSw); go_simp; (try with_reducible rfl))
        (try simp only [List.getElem_toArray, List.getElem_cons_succ, List.getElem_cons_zero, Act.put, List.setIfInBounds_toArray, List.set_cons_zero, List.set_cons_succ])
        refine wpAnyH_take (i := 23) (v := ?_) rfl (by kernel_rfl) (by kernel_rfl) (by kernel_rfl) (fun _ _ _ h => h) (Or.inl ⟨by rfl, ?_⟩) (by assumption) ?_
        rotate_left
        · (intro w hSw; (try dsimp only at hSw); go_simp; (try with_reducible rfl))
        (try simp only [List.getElem_toArray, List.getElem_cons_succ, List.getElem_cons_zero, Act.put, List.setIfInBounds_toArray, List.set_cons_zero, List.set_cons_succ])
        refine wpAnyH_take (i := 24) (v := ?_) rfl (by kernel_rfl) (by kernel_rfl) (by kernel_rfl) (fun _ _ _ h => h) (Or.inl ⟨by rfl, ?_⟩) (by assumption) ?_
        rotate_left
        · (intro w hSw; (try dsimp only at hSw); go_simp; (try with_reducible rfl))
        (try simp only [List.getElem_toArray, List.getElem_cons_succ, List.getElem_cons_zero, Act.put, List.setIfInBounds_toArray, List.set_cons_zero, List.set_cons_succ])
        refine wpAnyH_take (i := 25) (v := ?_) rfl (by kernel_rfl) (by kernel_rfl) (by kernel_rfl) (fun _ _ _ h => h) (Or.inl ⟨by rfl, ?_⟩) (by assumption) ?_
        rotate_left
        · (intro w hSw; (try dsimp only at hSw); go_simp; (try with_reducible rfl))
        (try simp only [List.getElem_toArray, List.getElem_cons_succ, List.getElem_cons_zero, Act.put, List.setIfInBounds_toArray, List.set_cons_zero, List.set_cons_succ])
        refine wpAnyH_take (i := 26) (v := ?_) rfl (by kernel_rfl) (by kernel_rfl) (by kernel_rfl) (fun _ _ _ h => h) (Or.inl ⟨by rfl, ?_⟩) (by assumption) ?_
        rotate_left
        · (intro w hSw; (try dsimp only at hSw); go_simp; (try with_reducible rfl))
        (try simp only [List.getElem_toArray, List.getElem_cons_succ, List.getElem_cons_zero, Act.put, List.setIfInBounds_toArray, List.set_cons_zero, List.set_cons_succ])
        refine wpAnyH_take (i := 27) (v := ?_) rfl (by kernel_rfl) (by kernel_rfl) (by kernel_rfl) (fun _ _ _ h => h) (Or.inl ⟨by rfl, ?_⟩) (by assumption) ?_
        rotate_left
        · (intro w hSw; (try dsimp only at hSw); go_simp; (try with_reducible rfl))
        (try simp only [List.getElem_toArray, List.getElem_cons_succ, List.getElem_cons_zero, Act.put, List.setIfInBounds_toArray, List.set_cons_zero, List.set_cons_succ])
        refine wpAnyH_take (i := 28) (v := ?_) rfl (by kernel_rfl) (by kernel_rfl) (by kernel_rfl) (fun _ _ _ h => h) (Or.inl ⟨by rfl, ?_⟩) (by assumption) ?_
        rotate_left
        · (intro w hSw; (try dsimp only at hSw); go_simp; (try with_reducible rfl))
        (try simp only [List.getElem_toArray, List.getElem_cons_succ, List.getElem_cons_zero, Act.put, List.setIfInBounds_toArray, List.set_cons_zero, List.set_cons_succ])
        refine wpAnyH_take (i := 29) (v := ?_) rfl (by kernel_rfl) (by kernel_rfl) (by kernel_rfl) (fun _ _ _ h => h) (Or.inl ⟨by rfl, ?_⟩) (by assumption) ?_
        rotate_left
        · (intro w hSw; (try dsimp only at hSw); go_simp; (try with_reducible rfl))
        (try simp only [List.getElem_toArray, List.getElem_cons_succ, List.getElem_cons_zero, Act.put, List.setIfInBounds_toArray, List.set_cons_zero, List.set_cons_succ])
        refine wpAnyH_take (i := 30) (v := ?_) rfl (by kernel_rfl) (by kernel_rfl) (by kernel_rfl) (fun _ _ _ h => h) (Or.inl ⟨by rfl, ?_⟩) (by assumption) ?_
        rotate_left
        · (intro w hSw; (try dsimp only at hSw); go_simp; (try with_reducible rfl))
        (try simp only [List.getElem_toArray, List.getElem_cons_succ, List.getElem_cons_zero, Act.put, List.setIfInBounds_toArray, List.set_cons_zero, List.set_cons_succ])
        refine wpAnyH_take (i := 31) (v := ?_) rfl (by kernel_rfl) (by kernel_rfl) (by kernel_rfl) (fun _ _ _ h => h) (Or.inl ⟨by rfl, ?_⟩) (by assumption) ?_
        rotate_left
        · (intro w hSw; (try dsimp only at hSw); go_simp; (try with_reducible rfl))
        (try simp only [List.getElem_toArray, List.getElem_cons_succ, List.getElem_cons_zero, Act.put, List.setIfInBounds_toArray, List.set_cons_zero, List.set_cons_succ])
        refine wpAnyH_take (i := 32) (v := ?_) rfl (by kernel_rfl) (by kernel_rfl) (by kernel_rfl) (fun _ _ _ h => h) (Or.inl ⟨by rfl, ?_⟩) (by assumption) ?_
        rotate_left
        · (intro w hSw; (try dsimp only at hSw); go_simp; (try with_reducible rfl))
        (try simp only [List.getElem_toArray, List.getElem_cons_succ, List.getElem_cons_zero, Act.put, List.setIfInBounds_toArray, List.set_cons_zero, List.set_cons_succ])
        refine wpAnyH_take (i := 37) (v := ?_) rfl (by kernel_rfl) (by kernel_rfl) (by kernel_rfl) (fun _ _ _ h => h) (Or.inl ⟨by rfl, ?_⟩) (by assumption) ?_
        rotate_left
        · (intro w hSw; (try dsimp only at hSw); go_simp; (try with_reducible rfl))
        (try simp only [List.getElem_toArray, List.getElem_cons_succ, List.getElem_cons_zero, Act.put, List.setIfInBounds_toArray, List.set_cons_zero, List.set_cons_succ])
        refine wpAnyH_ready (rs := [33]) (by kernel_rfl) (by simp) (AllReadyH.cons (o := _) rfl (fun K hK => ?_) AllReadyH.nil)
        go_simp
        go_at_call 36
        refine (next_any 9 (by omega) (by omega) hT).mono ?_
        rintro e w15 ⟨r, rfl, hr, hT', hg⟩
        replace f0 := f0.tape hT hg
        replace f1 := f1.tape hT hg
        replace f2 := f2.tape hT hg
        replace f3 := f3.tape hT hg
        replace f4 := f4.tape hT hg
        replace f5 := f5.tape hT hg
        replace b0 := b0.other hg (by omega)
        replace b1 := b1.other hg (by omega)
        replace b2 := b2.other hg (by omega)
        replace hlt := Nat.lt_of_lt_of_le hlt hg.size
        replace H0 := H0.grown hg H0.size (by rintro k hk; injection hk with hk; omega)
        clear hT
        have hT := hT'
        clear hT' hg
        have wr := wrap1 hr
        clear hT hlt
        go_wp2_with fail
        refine hK.out _ _ ⟨b0.cell 0 _ rfl, b0.cell 1 _ rfl, b0.cell 2 _ rfl, b0.cell 3 _ rfl, b0.cell 4 _ rfl, b0.cell 5 _ rfl, b1.cell 0 _ rfl, b1.cell 1 _ rfl, b1.cell 2 _ rfl, b1.cell 3 _ rfl, b1.cell 4 _ rfl, b1.cell 5 _ rfl⟩ (fun hHeld => ?_)
        clear hK K
        (try simp only [List.getElem_toArray, List.getElem_cons_succ, List.getElem_cons_zero, Act.put, List.setIfInBounds_toArray, List.set_cons_zero, List.set_cons_succ])
        refine wpAnyH_take (i := 34) (v := ?_) rfl (by kernel_rfl) (by kernel_rfl) (by kernel_rfl) (fun _ _ _ h => h) (Or.inl ⟨by rfl, ?_⟩) (by assumption) ?_
        rotate_left
        · (intro w hSw; (try dsimp only at hSw); go_simp; (try with_reducible rfl))
        (try simp only [List.getElem_toArray, List.getElem_cons_succ, List.getElem_cons_zero, Act.put, List.setIfInBounds_toArray, List.set_cons_zero, List.set_cons_succ])
        refine wpAnyH_ready (rs := [35]) (by kernel_rfl) (by simp) (AllReadyH.cons (o := _) rfl (fun K hK => ?_) AllReadyH.nil)
        go_simp
        go_at_call 48
        refine (npart_v (d := 4) (1 + (r : Int)) (by omega) (by omega) (by omega)).mono ?_
        rintro e w16 ⟨s8, A8, n8, c8, D8, m8, e8, rfl, p8, hb⟩
        replace f0 := f0.below hb
        replace f1 := f1.below hb
        replace f2 := f2.below hb
        replace f3 := f3.below hb
        replace f4 := f4.below hb
        replace f5 := f5.below hb
        replace b0 := b0.below hb
        replace b1 := b1.below hb
        replace b2 := b2.below hb
        replace H0 := H0.trans (hb.mono H0.size)
        clear hb
        go_wp2_with fail
        refine hK.out _ _ ⟨b0.cell 0 _ rfl, b0.cell 1 _ rfl, b0.cell 2 _ rfl, b0.cell 3 _ rfl, b0.cell 4 _ rfl, b0.cell 5 _ rfl, b1.cell 0 _ rfl, b1.cell 1 _ rfl, b1.cell 2 _ rfl, b1.cell 3 _ rfl, b1.cell 4 _ rfl, b1.cell 5 _ rfl⟩ (fun hHeld => ?_)
        clear hK K
        (try simp only [List.getElem_toArray, List.getElem_cons_succ, List.getElem_cons_zero, Act.put, List.setIfInBounds_toArray, List.set_cons_zero, List.set_cons_succ])
        refine wpAnyH_ready (rs := [36]) (by kernel_rfl) (by simp) (AllReadyH.cons (o := _) rfl (fun K hK => ?_) AllReadyH.nil)
        go_simp
        go_at_call 30
        refine (toq_v p8 (by omega)).mono ?_
        rintro e w17 ⟨s9, A9, n9, c9, D9, m9, e9, rfl, p9, hb⟩
        replace f0 := f0.below hb
        replace f1 := f1.below hb
        replace f2 := f2.below hb
        replace f3 := f3.below hb
        replace f4 := f4.below hb
        replace f5 := f5.below hb
        replace p8 := p8.below hb
        replace b0 := b0.below hb
        replace b1 := b1.below hb
        replace b2 := b2.below hb
        replace H0 := H0.trans (hb.mono H0.size)
        clear hb
        clear p8
        go_wp2_with fail
        refine hK.out _ _ ⟨b0.cell 0 _ rfl, b0.cell 1 _ rfl, b0.cell 2 _ rfl, b0.cell 3 _ rfl, b0.cell 4 _ rfl, b0.cell 5 _ rfl, b1.cell 0 _ rfl, b1.cell 1 _ rfl, b1.cell 2 _ rfl, b1.cell 3 _ rfl, b1.cell 4 _ rfl, b1.cell 5 _ rfl⟩ (fun hHeld => ?_)
        clear hK K
        (try simp only [List.getElem_toArray, List.getElem_cons_succ, List.getElem_cons_zero, Act.put, List.setIfInBounds_toArray, List.set_cons_zero, List.set_cons_succ])
        refine wpAnyH_ready (rs := [38]) (by kernel_rfl) (by simp) (AllReadyH.cons (o := _) rfl (fun K hK => ?_) AllReadyH.nil)
        go_simp
        go_at_call 27
        refine (pscale_v p9.rq f0.rq f1.rq (by omega) (by omega)).mono ?_
        rintro e w18 ⟨s10, A10, n10, c10, D10, m10, e10, s11, A11, n11, c11, D11, m11, e11, rfl, p10, p11, hb⟩
        replace f0 := f0.below hb
        replace f1 := f1.below hb
        replace f2 := f2.below hb
        replace f3 := f3.below hb
        replace f4 := f4.below hb
        replace f5 := f5.below hb
        replace p9 := p9.below hb
        replace b0 := b0.below hb
        replace b1 := b1.below hb
        replace b2 := b2.below hb
        replace H0 := H0.trans (hb.mono H0.size)
        clear hb
        clear p9
        go_wp2_with fail
        refine hK.out _ _ ⟨b0.cell 0 _ rfl, b0.cell 1 _ rfl, b0.cell 2 _ rfl, b0.cell 3 _ rfl, b0.cell 4 _ rfl, b0.cell 5 _ rfl, b1.cell 0 _ rfl, b1.cell 1 _ rfl, b1.cell 2 _ rfl, b1.cell 3 _ rfl, b1.cell 4 _ rfl, b1.cell 5 _ rfl⟩ (fun hHeld => ?_)
        clear hK K
        (try simp only [List.getElem_toArray, List.getElem_cons_succ, List.getElem_cons_zero, Act.put, List.setIfInBounds_toArray, List.set_cons_zero, List.set_cons_succ])
        refine wpAnyH_ready (rs := [39]) (by kernel_rfl) (by simp) (AllReadyH.cons (o := _) rfl (fun K hK => ?_) AllReadyH.nil)
        go_simp
        go_at_call 41
        refine (pangle_v f0.rq f1.rq p10.rq p11.rq (by omega) (by omega) (ang_scale _ _ _ (part_pos r))).mono ?_
        rintro e w19 ⟨rfl, hb⟩
        replace f0 := f0.below hb
        replace f1 := f1.below hb
        replace f2 := f2.below hb
        replace f3 := f3.below hb
        replace f4 := f4.below hb
        replace f5 := f5.below hb
        replace p10 := p10.below hb
        replace p11 := p11.below hb
        replace b0 := b0.below hb
        replace b1 := b1.below hb
        replace b2 := b2.below hb
        replace H0 := H0.trans (hb.mono H0.size)
        clear hb
        clear p10
        clear p11
        go_wp2_with fail
        refine hK.out _ _ ⟨b0.cell 0 _ rfl, b0.cell 1 _ rfl, b0.cell 2 _ rfl, b0.cell 3 _ rfl, b0.cell 4 _ rfl, b0.cell 5 _ rfl, b1.cell 0 _ rfl, b1.cell 1 _ rfl, b1.cell 2 _ rfl, b1.cell 3 _ rfl, b1.cell 4 _ rfl, b1.cell 5 _ rfl⟩ (fun hHeld => ?_)
        clear hK K
        (try simp only [List.getElem_toArray, List.getElem_cons_succ, List.getElem_cons_zero, Act.put, List.setIfInBounds_toArray, List.set_cons_zero, List.set_cons_succ])
        refine wpAnyH_take (i := 40) (v := ?_) rfl (by kernel_rfl) (by kernel_rfl) (by kernel_rfl) (fun _ _ _ h => h) (Or.inl ⟨by rfl, ?_⟩) (by assumption) ?_
        rotate_left
        · (intro w hSw; (try dsimp only at hSw); go_simp; (try with_reducible rfl))
        (try simp only [List.getElem_toArray, List.getElem_cons_succ, List.getElem_cons_zero, Act.put, List.setIfInBounds_toArray, List.set_cons_zero, List.set_cons_succ])
        refine wpAnyH_take (i := 41) (v := ?_) rfl (by kernel_rfl) (by kernel_rfl) (by kernel_rfl) (fun _ _ _ h => h) (Or.inl ⟨by rfl, ?_⟩) (by assumption) ?_
        rotate_left
        · (intro w hSw; (try dsimp only at hSw); go_simp; (try with_reducible rfl))
        (try simp only [List.getElem_toArray, List.getElem_cons_succ, List.getElem_cons_zero, Act.put, List.setIfInBounds_toArray, List.set_cons_zero, List.set_cons_succ])
        refine wpAnyH_done (by kernel_rfl) ?_ _
        refine NoPanic.normal ?_
        go_wp2_with fail
        go_meet
        exact ⟨rfl, f0, f1, f2, f3, b0, b1, H0⟩
      · have hz1 : decide (0 < kz) = false := decide_eq_false (by omega)
        clear r1 r2 r3
        have Hyx2 : Hid (angQ (x1 : Rat) (y1 : Rat) (x0 : Rat) (y0 : Rat) = 0) := Lib.hid Hyx.out
        clear Hyx
        have hw9 : IntKind.i64.wrap (0) = 0 := by decide
        have hD := drawn_below w12
        replace f0 := f0.below hD
        replace f1 := f1.below hD
        replace f2 := f2.below hD
        replace f3 := f3.below hD
        replace f4 := f4.below hD
        replace f5 := f5.below hD
        replace b0 := b0.below hD
        replace b1 := b1.below hD
        replace b2 := b2.below hD
        replace hT := hT.keep hD hlt
        replace hlt := Nat.lt_of_lt_of_le hlt hD.size
        replace H0 := H0.trans (hD.mono H0.size)
        clear hD
        refine wp_region_noPanic ?_
        refine wp_region_held_drew (S := (fun V => V.cell? ⟨w7.heap.size, 0, none⟩ = some (.bool s0) ∧ V.cell? ⟨w7.heap.size, 1, none⟩ = some (.slice A0 n0 c0) ∧ V.cell? ⟨w7.heap.size, 2, none⟩ = some (.slice D0 m0 e0) ∧ V.cell? ⟨w7.heap.size, 3, none⟩ = some (.bool s1) ∧ V.cell? ⟨w7.heap.size, 4, none⟩ = some (.slice A1 n1 c1) ∧ V.cell? ⟨w7.heap.size, 5, none⟩ = some (.slice D1 m1 e1) ∧ V.cell? ⟨w7.heap.size + 1, 0, none⟩ = some (.bool s2) ∧ V.cell? ⟨w7.heap.size + 1, 1, none⟩ = some (.slice A2 n2 c2) ∧ V.cell? ⟨w7.heap.size + 1, 2, none⟩ = some (.slice D2 m2 e2) ∧ V.cell? ⟨w7.heap.size + 1, 3, none⟩ = some (.bool s3) ∧ V.cell? ⟨w7.heap.size + 1, 4, none⟩ = some (.slice A3 n3 c3) ∧ V.cell? ⟨w7.heap.size + 1, 5, none⟩ = some (.slice D3 m3 e3))) (by kernel_rfl) ⟨b0.cell 0 _ rfl, b0.cell 1 _ rfl, b0.cell 2 _ rfl, b0.cell 3 _ rfl, b0.cell 4 _ rfl, b0.cell 5 _ rfl, b1.cell 0 _ rfl, b1.cell 1 _ rfl, b1.cell 2 _ rfl, b1.cell 3 _ rfl, b1.cell 4 _ rfl, b1.cell 5 _ rfl⟩ (fun hHeld => ?_)
        generalize w12.drew = v13 at H0 hHeld f0 f1 f2 f3 f4 f5 b0 b1 b2 hT hlt ⊢
        refine wpAnyH_take (i := 0) (v := ?_) rfl (by kernel_rfl) (by kernel_rfl) (by kernel_rfl) (fun _ _ _ h => h) (Or.inl ⟨by rfl, ?_⟩) (by assumption) ?_
        rotate_left
        · (intro w hSw; (try dsimp only at hSw); go_simp; (try with_reducible rfl))
        (try simp only [List.getElem_toArray, List.getElem_cons_zero, Act.put, List.setIfInBounds_toArray, List.set_cons_zero, List.set_cons_succ])
        refine wpAnyH_take (i := 1) (v := ?_) rfl (by kernel_rfl) (by kernel_rfl) (by kernel_rfl) (fun _ _ _ h => h) (Or.inl ⟨by rfl, ?_⟩) (by assumption) ?_
        rotate_left
        · (intro w hSw; (try dsimp only at hSw); go_simp; (try with_reducible rfl))
        (try simp only [List.getElem_toArray, List.getElem_cons_succ, List.getElem_cons_zero, Act.put, List.setIfInBounds_toArray, List.set_cons_zero, List.set_cons_succ])
        refine wpAnyH_take (i := 3) (v := ?_) rfl (by kernel_rfl) (by kernel_rfl) (by kernel_rfl) (fun _ _ _ h => h) (Or.inl ⟨by rfl, ?_⟩) (by assumption) ?_
        rotate_left
        · (intro w hSw; (try dsimp only at hSw); go_simp; (try with_reducible rfl))
        (try simp only [List.getElem_toArray, List.getElem_cons_succ, List.getElem_cons_zero, Act.put, List.setIfInBounds_toArray, List.set_cons_zero, List.set_cons_succ])
        refine wpAnyH_take (i := 4) (v := ?_) rfl (by kernel_rfl) (by kernel_rfl) (by kernel_rfl) (fun _ _ _ h => h) (Or.inl ⟨by rfl, ?_⟩) (by assumption) ?_
        rotate_left
        · (intro w hSw; (try dsimp only at hSw); go_simp; (try with_reducible rfl))
        (try simp only [List.getElem_toArray, List.getElem_cons_succ, List.getElem_cons_zero, Act.put, List.setIfInBounds_toArray, List.set_cons_zero, List.set_cons_succ])
        refine wpAnyH_ready (rs := [2]) (by kernel_rfl) (by simp) (AllReadyH.cons (o := _) rfl (fun K hK => ?_) AllReadyH.nil)
        go_simp
        go_at_call 41
        refine (pangle_v f2.rq f3.rq f0.rq f1.rq (by omega) (by omega) Hyx2.out).mono ?_
        rintro e w14 ⟨rfl, hb⟩
        replace f0 := f0.below hb
        replace f1 := f1.below hb
        replace f2 := f2.below hb
        replace f3 := f3.below hb
        replace f4 := f4.below hb
        replace f5 := f5.below hb
        replace b0 := b0.below hb
        replace b1 := b1.below hb
        replace b2 := b2.below hb
        replace hT := hT.keep hb hlt
        replace hlt := Nat.lt_of_lt_of_le hlt hb.size
        replace H0 := H0.trans (hb.mono H0.size)
        clear hb
        go_wp2_with fail
        refine hK.out _ _ ⟨b0.cell 0 _ rfl, b0.cell 1 _ rfl, b0.cell 2 _ rfl, b0.cell 3 _ rfl, b0.cell 4 _ rfl, b0.cell 5 _ rfl, b1.cell 0 _ rfl, b1.cell 1 _ rfl, b1.cell 2 _ rfl, b1.cell 3 _ rfl, b1.cell 4 _ rfl, b1.cell 5 _ rfl⟩ (fun hHeld => ?_)
        clear hK K
        (try simp only [List.getElem_toArray, List.getElem_cons_succ, List.getElem_cons_zero, Act.put, List.setIfInBounds_toArray, List.set_cons_zero, List.set_cons_succ])
        refine wpAnyH_take (i := 5) (v := ?_) rfl (by kernel_rfl) (by kernel_rfl) (by kernel_rfl) (fun _ _ _ h => h) (Or.inl ⟨by rfl, ?_⟩) (by assumption) ?_
        rotate_left
        · (intro w hSw; (try dsimp only at hSw); go_simp; (try with_reducible rfl))
        (try simp only [List.getElem_toArray, List.getElem_cons_succ, List.getElem_cons_zero, Act.put, List.setIfInBounds_toArray, List.set_cons_zero, List.set_cons_succ])
        refine wpAnyH_take (i := 6) (v := ?_) rfl (by kernel_rfl) (by kernel_rfl) (by kernel_rfl) (fun _ _ _ h => h) (Or.inl ⟨by rfl, ?_⟩) (by assumption) ?_
        rotate_left
        · (intro w hSw; (try dsimp only at hSw); go_simp; (try with_reducible rfl))
        (try simp only [List.getElem_toArray, List.getElem_cons_succ, List.getElem_cons_zero, Act.put, List.setIfInBounds_toArray, List.set_cons_zero, List.set_cons_succ])
        refine wpAnyH_take (i := 7) (v := ?_) rfl (by kernel_rfl) (by kernel_rfl) (by kernel_rfl) (fun _ _ _ h => h) (Or.inl ⟨by rfl, ?_⟩) (by assumption) ?_
        rotate_left
        · (intro w hSw; (try dsimp only at hSw); go_simp; (try with_reducible rfl))
        (try simp only [List.getElem_toArray, List.getElem_cons_succ, List.getElem_cons_zero, Act.put, List.setIfInBounds_toArray, List.set_cons_zero, List.set_cons_succ])
        refine wpAnyH_take (i := 8) (v := ?_) rfl (by kernel_rfl) (by kernel_rfl) (by kernel_rfl) (fun _ _ _ h => h) (Or.inl ⟨by rfl, ?_⟩) (by assumption) ?_
        rotate_left
        · (intro w hSw; (try dsimp only at hSw); go_simp; (try with_reducible rfl))
        (try simp only [List.getElem_toArray, List.getElem_cons_succ, List.getElem_cons_zero, Act.put, List.setIfInBounds_toArray, List.set_cons_zero, List.set_cons_succ])
        refine wpAnyH_take (i := 9) (v := ?_) rfl (by kernel_rfl) (by kernel_rfl) (by kernel_rfl) (fun _ _ _ h => h) (Or.inl ⟨by rfl, ?_⟩) (by assumption) ?_
        rotate_left
        · (intro w hSw; (try dsimp only at hSw); go_simp; (try with_reducible rfl))
        (try simp only [List.getElem_toArray, List.getElem_cons_succ, List.getElem_cons_zero, Act.put, List.setIfInBounds_toArray, List.set_cons_zero, List.set_cons_succ])
        refine wpAnyH_take (i := 10) (v := ?_) rfl (by kernel_rfl) (by kernel_rfl) (by kernel_rfl) (fun _ _ _ h => h) (Or.inl ⟨by rfl, ?_⟩) (by assumption) ?_
        rotate_left
        · (intro w hSw; (try dsimp only at hSw); go_simp; (try with_reducible rfl))
        (try simp only [List.getElem_toArray, List.getElem_cons_succ, List.getElem_cons_zero, Act.put, List.setIfInBounds_toArray, List.set_cons_zero, List.set_cons_succ])
        refine wpAnyH_take (i := 11) (v := ?_) rfl (by kernel_rfl) (by kernel_rfl) (by kernel_rfl) (fun _ _ _ h => h) (Or.inl ⟨by rfl, ?_⟩) (by assumption) ?_
        rotate_left
        · (intro w hSw; (try dsimp only at hSw); go_simp; (try with_reducible rfl))
        (try simp only [List.getElem_toArray, List.getElem_cons_succ, List.getElem_cons_zero, Act.put, List.setIfInBounds_toArray, List.set_cons_zero, List.set_cons_succ])
        refine wpAnyH_take (i := 12) (v := ?_) rfl (by kernel_rfl) (by kernel_rfl) (by kernel_rfl) (fun _ _ _ h => h) (Or.inl ⟨by rfl, ?_⟩) (by assumption) ?_
        rotate_left
        · (intro w hSw; (try dsimp only at hSw); go_simp; (try with_reducible rfl))
        (try simp only [List.getElem_toArray, List.getElem_cons_succ, List.getElem_cons_zero, Act.put, List.setIfInBounds_toArray, List.set_cons_zero, List.set_cons_succ])
        refine wpAnyH_take (i := 13) (v := ?_) rfl (by kernel_rfl) (by kernel_rfl) (by kernel_rfl) (fun _ _ _ h => h) (Or.inl ⟨by rfl, ?_⟩) (by assumption) ?_
        rotate_left
        · (intro w hSw; (try dsimp only at hSw); go_simp; (try with_reducible rfl))
        (try simp only [List.getElem_toArray, List.getElem_cons_succ, List.getElem_cons_zero, Act.put, List.setIfInBounds_toArray, List.set_cons_zero, List.set_cons_succ])
        refine wpAnyH_take (i := 14) (v := ?_) rfl (by kernel_rfl) (by kernel_rfl) (by kernel_rfl) (fun _ _ _ h => h) (Or.inl ⟨by rfl, ?_⟩) (by assumption) ?_
        rotate_left
        · (intro w hSw; (try dsimp only at hSw); go_simp; (try with_reducible rfl))
        (try simp only [List.getElem_toArray, List.getElem_cons_succ, List.getElem_cons_zero, Act.put, List.setIfInBounds_toArray, List.set_cons_zero, List.set_cons_succ])
        refine wpAnyH_take (i := 15) (v := ?_) rfl (by kernel_rfl) (by kernel_rfl) (by kernel_rfl) (fun _ _ _ h => h) (Or.inl ⟨by rfl, ?_⟩) (by assumption) ?_
        rotate_left
        · (intro w hSw; (try dsimp only at hSw); go_simp; (try with_reducible rfl))
        (try simp only [List.getElem_toArray, List.getElem_cons_succ, List.getElem_cons_zero, Act.put, List.setIfInBounds_toArray, List.set_cons_zero, List.set_cons_succ])
        refine wpAnyH_take (i := 16) (v := ?_) rfl (by kernel_rfl) (by kernel_rfl) (by kernel_rfl) (fun _ _ _ h => h) (Or.inl ⟨by rfl, ?_⟩) (by assumption) ?_
        rotate_left
        · (intro w hSw; (try dsimp only at hSw); go_simp; (try with_reducible rfl))
        (try simp only [List.getElem_toArray, List.getElem_cons_succ, List.getElem_cons_zero, Act.put, List.setIfInBounds_toArray, List.set_cons_zero, List.set_cons_succ])
        refine wpAnyH_take (i := 17) (v := ?_) rfl (by kernel_rfl) (by kernel_rfl) (by kernel_rfl) (fun _ _ _ h => h) (Or.inl ⟨by rfl, ?_⟩) (by assumption) ?_
        rotate_left
        · (intro w hSw; (try dsimp only at hSw); go_simp; (try with_reducible rfl))
        (try simp only [List.getElem_toArray, List.getElem_cons_succ, List.getElem_cons_zero, Act.put, List.setIfInBounds_toArray, List.set_cons_zero, List.set_cons_succ])
        refine wpAnyH_take (i := 18) (v := ?_) rfl (by kernel_rfl) (by kernel_rfl) (by kernel_rfl) (fun _ _ _ h => h) (Or.inl ⟨by rfl, ?_⟩) (by assumption) ?_
        rotate_left
        · (intro w hSw; (try dsimp only at hSw); go_simp; (try with_reducible rfl))
        (try simp only [List.getElem_toArray, List.getElem_cons_succ, List.getElem_cons_zero, Act.put, List.setIfInBounds_toArray, List.set_cons_zero, List.set_cons_succ])
        refine wpAnyH_take (i := 19) (v := ?_) rfl (by kernel_rfl) (by kernel_rfl) (by kernel_rfl) (fun _ _ _ h => h) (Or.inl ⟨by rfl, ?_⟩) (by assumption) ?_
        rotate_left
        · (intro w hSw; (try dsimp only at hSw); go_simp; (try with_reducible rfl))
        (try simp only [List.getElem_toArray, List.getElem_cons_succ, List.getElem_cons_zero, Act.put, List.setIfInBounds_toArray, List.set_cons_zero, List.set_cons_succ])
        refine wpAnyH_take (i := 20) (v := ?_) rfl (by kernel_rfl) (by kernel_rfl) (by kernel_rfl) (fun _ _ _ h => h) (Or.inl ⟨by rfl, ?_⟩) (by assumption) ?_
        rotate_left
        · (intro w hSw; (try dsimp only at hSw); go_simp; (try with_reducible rfl))
        (try simp only [List.getElem_toArray, List.getElem_cons_succ, List.getElem_cons_zero, Act.put, List.setIfInBounds_toArray, List.set_cons_zero, List.set_cons_succ])
        refine wpAnyH_take (i := 21) (v := ?_) rfl (by kernel_rfl) (by kernel_rfl) (by kernel_rfl) (fun _ _ _ h => h) (Or.inl ⟨by rfl, ?_⟩) (by assumption) ?_
        rotate_left
        · (intro w hSw; (try dsimp only at hSw); go_simp; (try with_reducible rfl))
        (try simp only [List.getElem_toArray, List.getElem_cons_succ, List.getElem_cons_zero, Act.put, List.setIfInBounds_toArray, List.set_cons_zero, List.set_cons_succ])
        refine wpAnyH_take (i := 22) (v := ?_) rfl (by kernel_rfl) (by kernel_rfl) (by kernel_rfl) (fun _ _ _ h => h) (Or.inl ⟨by rfl, ?_⟩) (by assumption) ?_
        rotate_left
        · (intro w hSw; (try dsimp only at hSw); go_simp; (try with_reducible rfl))
        (try simp only [List.getElem_toArray, List.getElem_cons_succ, List.getElem_cons_zero, Act.put, List.setIfInBounds_toArray, List.set_cons_zero, List.set_cons_succ])
        refine wpAnyH_take (i := 23) (v := ?_) rfl (by kernel_rfl) (by kernel_rfl) (by kernel_rfl) (fun _ _ _ h => h) (Or.inl ⟨by rfl, ?_⟩) (by assumption) ?_
        rotate_left
        · (intro w hSw; (try dsimp only at hSw); go_simp; (try with_reducible rfl))
        (try simp only [List.getElem_toArray, List.getElem_cons_succ, List.getElem_cons_zero, Act.put, List.setIfInBounds_toArray, List.set_cons_zero, List.set_cons_succ])
        refine wpAnyH_take (i := 24) (v := ?_) rfl (by kernel_rfl) (by kernel_rfl) (by kernel_rfl) (fun _ _ _ h => h) (Or.inl ⟨by rfl, ?_⟩) (by assumption) ?_
        rotate_left
        · (intro w hSw; (try dsimp only at hSw); go_simp; (try with_reducible rfl))
        (try simp only [List.getElem_toArray, List.getElem_cons_succ, List.getElem_cons_zero, Act.put, List.setIfInBounds_toArray, List.set_cons_zero, List.set_cons_succ])
        refine wpAnyH_take (i := 25) (v := ?_) rfl (by kernel_rfl) (by kernel_rfl) (by kernel_rfl) (fun _ _ _ h => h) (Or.inl ⟨by rfl, ?_⟩) (by assumption) ?_
        rotate_left
        · (intro w hSw; (try dsimp only at hSw); go_simp; (try with_reducible rfl))
        (try simp only [List.getElem_toArray, List.getElem_cons_succ, List.getElem_cons_zero, Act.put, List.setIfInBounds_toArray, List.set_cons_zero, List.set_cons_succ])
        refine wpAnyH_take (i := 26) (v := undef) rfl (by kernel_rfl) (by kernel_rfl) (by kernel_rfl) (fun _ _ _ h => h) (Or.inr ⟨by rfl, rfl⟩) (by assumption) ?_
        (try simp only [List.getElem_toArray, List.getElem_cons_succ, List.getElem_cons_zero, Act.put, List.setIfInBounds_toArray, List.set_cons_zero, List.set_cons_succ])
        refine wpAnyH_take (i := 27) (v := undef) rfl (by kernel_rfl) (by kernel_rfl) (by kernel_rfl) (fun _ _ _ h => h) (Or.inr ⟨by rfl, rfl⟩) (by assumption) ?_
        (try simp only [List.getElem_toArray, List.getElem_cons_succ, List.getElem_cons_zero, Act.put, List.setIfInBounds_toArray, List.set_cons_zero, List.set_cons_succ])
        refine wpAnyH_take (i := 28) (v := ?_) rfl (by kernel_rfl) (by kernel_rfl) (by kernel_rfl) (fun _ _ _ h => h) (Or.inl ⟨by rfl, ?_⟩) (by assumption) ?_
        rotate_left
        · (intro w hSw; (try dsimp only at hSw); go_simp; (try with_reducible rfl))
        (try simp only [List.getElem_toArray, List.getElem_cons_succ, List.getElem_cons_zero, Act.put, List.setIfInBounds_toArray, List.set_cons_zero, List.set_cons_succ])
        refine wpAnyH_take (i := 29) (v := ?_) rfl (by kernel_rfl) (by kernel_rfl) (by kernel_rfl) (fun _ _ _ h => h) (Or.inl ⟨by rfl, ?_⟩) (by assumption) ?_
        rotate_left
        · (intro w hSw; (try dsimp only at hSw); go_simp; (try with_reducible rfl))
        (try simp only [List.getElem_toArray, List.getElem_cons_succ, List.getElem_cons_zero, Act.put, List.setIfInBounds_toArray, List.set_cons_zero, List.set_cons_succ])
        refine wpAnyH_take (i := 30) (v := ?_) rfl (by kernel_rfl) (by kernel_rfl) (by kernel_rfl) (fun _ _ _ h => h) (Or.inl ⟨by rfl, ?_⟩) (by assumption) ?_
        rotate_left
        · (intro w hSw; (try dsimp only at hSw); go_simp; (try with_reducible rfl))
        (try simp only [List.getElem_toArray, List.getElem_cons_succ, List.getElem_cons_zero, Act.put, List.setIfInBounds_toArray, List.set_cons_zero, List.set_cons_succ])
        refine wpAnyH_take (i := 31) (v := ?_) rfl (by kernel_rfl) (by kernel_rfl) (by kernel_rfl) (fun _ _ _ h => h) (Or.inl ⟨by rfl, ?_⟩) (by assumption) ?_
        rotate_left
        · (intro w hSw; (try dsimp only at hSw); go_simp; (try with_reducible rfl))
        (try simp only [List.getElem_toArray, List.getElem_cons_succ, List.getElem_cons_zero, Act.put, List.setIfInBounds_toArray, List.set_cons_zero, List.set_cons_succ])
        refine wpAnyH_take (i := 32) (v := ?_) rfl (by kernel_rfl) (by kernel_rfl) (by kernel_rfl) (fun _ _ _ h => h) (Or.inl ⟨by rfl, ?_⟩) (by assumption) ?_
        rotate_left
        · (intro w hSw; (try dsimp only at hSw); go_simp; (try with_reducible rfl))
        (try simp only [List.getElem_toArray, List.getElem_cons_succ, List.getElem_cons_zero, Act.put, List.setIfInBounds_toArray, List.set_cons_zero, List.set_cons_succ])
        refine wpAnyH_take (i := 37) (v := ?_) rfl (by kernel_rfl) (by kernel_rfl) (by kernel_rfl) (fun _ _ _ h => h) (Or.inl ⟨by rfl, ?_⟩) (by assumption) ?_
        rotate_left
        · (intro w hSw; (try dsimp only at hSw); go_simp; (try with_reducible rfl))
        (try simp only [List.getElem_toArray, List.getElem_cons_succ, List.getElem_cons_zero, Act.put, List.setIfInBounds_toArray, List.set_cons_zero, List.set_cons_succ])
        refine wpAnyH_ready (rs := [33]) (by kernel_rfl) (by simp) (AllReadyH.cons (o := _) rfl (fun K hK => ?_) AllReadyH.nil)
        go_simp
        go_at_call 36
        refine (next_any 9 (by omega) (by omega) hT).mono ?_
        rintro e w15 ⟨r, rfl, hr, hT', hg⟩
        replace f0 := f0.tape hT hg
        replace f1 := f1.tape hT hg
        replace f2 := f2.tape hT hg
        replace f3 := f3.tape hT hg
        replace f4 := f4.tape hT hg
        replace f5 := f5.tape hT hg
        replace b0 := b0.other hg (by omega)
        replace b1 := b1.other hg (by omega)
        replace b2 := b2.other hg (by omega)
        replace hlt := Nat.lt_of_lt_of_le hlt hg.size
        replace H0 := H0.grown hg H0.size (by rintro k hk; injection hk with hk; omega)
        clear hT
        have hT := hT'
        clear hT' hg
        have wr := wrap1 hr
        clear hT hlt
        go_wp2_with fail
        refine hK.out _ _ ⟨b0.cell 0 _ rfl, b0.cell 1 _ rfl, b0.cell 2 _ rfl, b0.cell 3 _ rfl, b0.cell 4 _ rfl, b0.cell 5 _ rfl, b1.cell 0 _ rfl, b1.cell 1 _ rfl, b1.cell 2 _ rfl, b1.cell 3 _ rfl, b1.cell 4 _ rfl, b1.cell 5 _ rfl⟩ (fun hHeld => ?_)
        clear hK K
        (try simp only [List.getElem_toArray, List.getElem_cons_succ, List.getElem_cons_zero, Act.put, List.setIfInBounds_toArray, List.set_cons_zero, List.set_cons_succ])
        refine wpAnyH_take (i := 34) (v := ?_) rfl (by kernel_rfl) (by kernel_rfl) (by kernel_rfl) (fun _ _ _ h => h) (Or.inl ⟨by rfl, ?_⟩) (by assumption) ?_
        rotate_left
        · (intro w hSw; (try dsimp only at hSw); go_simp; (try with_reducible rfl))
        (try simp only [List.getElem_toArray, List.getElem_cons_succ, List.getElem_cons_zero, Act.put, List.setIfInBounds_toArray, List.set_cons_zero, List.set_cons_succ])
        refine wpAnyH_ready (rs := [35]) (by kernel_rfl) (by simp) (AllReadyH.cons (o := _) rfl (fun K hK => ?_) AllReadyH.nil)
        go_simp
        go_at_call 48
        refine (npart_v (d := 4) (1 + (r : Int)) (by omega) (by omega) (by omega)).mono ?_
        rintro e w16 ⟨s8, A8, n8, c8, D8, m8, e8, rfl, p8, hb⟩
        replace f0 := f0.below hb
        replace f1 := f1.below hb
        replace f2 := f2.below hb
        replace f3 := f3.below hb
        replace f4 := f4.below hb
        replace f5 := f5.below hb
        replace b0 := b0.below hb
        replace b1 := b1.below hb
        replace b2 := b2.below hb
        replace H0 := H0.trans (hb.mono H0.size)
        clear hb
        go_wp2_with fail
        refine hK.out _ _ ⟨b0.cell 0 _ rfl, b0.cell 1 _ rfl, b0.cell 2 _ rfl, b0.cell 3 _ rfl, b0.cell 4 _ rfl, b0.cell 5 _ rfl, b1.cell 0 _ rfl, b1.cell 1 _ rfl, b1.cell 2 _ rfl, b1.cell 3 _ rfl, b1.cell 4 _ rfl, b1.cell 5 _ rfl⟩ (fun hHeld => ?_)
        clear hK K
        (try simp only [List.getElem_toArray, List.getElem_cons_succ, List.getElem_cons_zero, Act.put, List.setIfInBounds_toArray, List.set_cons_zero, List.set_cons_succ])
        refine wpAnyH_ready (rs := [36]) (by kernel_rfl) (by simp) (AllReadyH.cons (o := _) rfl (fun K hK => ?_) AllReadyH.nil)
        go_simp
        go_at_call 30
        refine (toq_v p8 (by omega)).mono ?_
        rintro e w17 ⟨s9, A9, n9, c9, D9, m9, e9, rfl, p9, hb⟩
        replace f0 := f0.below hb
        replace f1 := f1.below hb
        replace f2 := f2.below hb
        replace f3 := f3.below hb
        replace f4 := f4.below hb
        replace f5 := f5.below hb
        replace p8 := p8.below hb
        replace b0 := b0.below hb
        replace b1 := b1.below hb
        replace b2 := b2.below hb
        replace H0 := H0.trans (hb.mono H0.size)
        clear hb
        clear p8
        go_wp2_with fail
        refine hK.out _ _ ⟨b0.cell 0 _ rfl, b0.cell 1 _ rfl, b0.cell 2 _ rfl, b0.cell 3 _ rfl, b0.cell 4 _ rfl, b0.cell 5 _ rfl, b1.cell 0 _ rfl, b1.cell 1 _ rfl, b1.cell 2 _ rfl, b1.cell 3 _ rfl, b1.cell 4 _ rfl, b1.cell 5 _ rfl⟩ (fun hHeld => ?_)
        clear hK K
        (try simp only [List.getElem_toArray, List.getElem_cons_succ, List.getElem_cons_zero, Act.put, List.setIfInBounds_toArray, List.set_cons_zero, List.set_cons_succ])
        refine wpAnyH_ready (rs := [38]) (by kernel_rfl) (by simp) (AllReadyH.cons (o := _) rfl (fun K hK => ?_) AllReadyH.nil)
        go_simp
        go_at_call 27
        refine (pscale_v p9.rq f0.rq f1.rq (by omega) (by omega)).mono ?_
        rintro e w18 ⟨s10, A10, n10, c10, D10, m10, e10, s11, A11, n11, c11, D11, m11, e11, rfl, p10, p11, hb⟩
        replace f0 := f0.below hb
        replace f1 := f1.below hb
        replace f2 := f2.below hb
        replace f3 := f3.below hb
        replace f4 := f4.below hb
        replace f5 := f5.below hb
        replace p9 := p9.below hb
        replace b0 := b0.below hb
        replace b1 := b1.below hb
        replace b2 := b2.below hb
        replace H0 := H0.trans (hb.mono H0.size)
        clear hb
        clear p9
        go_wp2_with fail
        refine hK.out _ _ ⟨b0.cell 0 _ rfl, b0.cell 1 _ rfl, b0.cell 2 _ rfl, b0.cell 3 _ rfl, b0.cell 4 _ rfl, b0.cell 5 _ rfl, b1.cell 0 _ rfl, b1.cell 1 _ rfl, b1.cell 2 _ rfl, b1.cell 3 _ rfl, b1.cell 4 _ rfl, b1.cell 5 _ rfl⟩ (fun hHeld => ?_)
        clear hK K
        (try simp only [List.getElem_toArray, List.getElem_cons_succ, List.getElem_cons_zero, Act.put, List.setIfInBounds_toArray, List.set_cons_zero, List.set_cons_succ])
        refine wpAnyH_ready (rs := [39]) (by kernel_rfl) (by simp) (AllReadyH.cons (o := _) rfl (fun K hK => ?_) AllReadyH.nil)
        go_simp
        go_at_call 41
        refine (pangle_v f0.rq f1.rq p10.rq p11.rq (by omega) (by omega) (ang_scale _ _ _ (part_pos r))).mono ?_
        rintro e w19 ⟨rfl, hb⟩
        replace f0 := f0.below hb
        replace f1 := f1.below hb
        replace f2 := f2.below hb
        replace f3 := f3.below hb
        replace f4 := f4.below hb
        replace f5 := f5.below hb
        replace p10 := p10.below hb
        replace p11 := p11.below hb
        replace b0 := b0.below hb
        replace b1 := b1.below hb
        replace b2 := b2.below hb
        replace H0 := H0.trans (hb.mono H0.size)
        clear hb
        clear p10
        clear p11
        go_wp2_with fail
        refine hK.out _ _ ⟨b0.cell 0 _ rfl, b0.cell 1 _ rfl, b0.cell 2 _ rfl, b0.cell 3 _ rfl, b0.cell 4 _ rfl, b0.cell 5 _ rfl, b1.cell 0 _ rfl, b1.cell 1 _ rfl, b1.cell 2 _ rfl, b1.cell 3 _ rfl, b1.cell 4 _ rfl, b1.cell 5 _ rfl⟩ (fun hHeld => ?_)
        clear hK K
        (try simp only [List.getElem_toArray, List.getElem_cons_succ, List.getElem_cons_zero, Act.put, List.setIfInBounds_toArray, List.set_cons_zero, List.set_cons_succ])
        refine wpAnyH_take (i := 40) (v := ?_) rfl (by kernel_rfl) (by kernel_rfl) (by kernel_rfl) (fun _ _ _ h => h) (Or.inl ⟨by rfl, ?_⟩) (by assumption) ?_
        rotate_left
        · (intro w hSw; (try dsimp only at hSw); go_simp; (try with_reducible rfl))
        (try simp only [List.getElem_toArray, List.getElem_cons_succ, List.getElem_cons_zero, Act.put, List.setIfInBounds_toArray, List.set_cons_zero, List.set_cons_succ])
        refine wpAnyH_take (i := 41) (v := ?_) rfl (by kernel_rfl) (by kernel_rfl) (by kernel_rfl) (fun _ _ _ h => h) (Or.inl ⟨by rfl, ?_⟩) (by assumption) ?_
        rotate_left
        · (intro w hSw; (try dsimp only at hSw); go_simp; (try with_reducible rfl))
        (try simp only [List.getElem_toArray, List.getElem_cons_succ, List.getElem_cons_zero, Act.put, List.setIfInBounds_toArray, List.set_cons_zero, List.set_cons_succ])
        refine wpAnyH_done (by kernel_rfl) ?_ _
        refine NoPanic.normal ?_
        go_wp2_with fail
        go_meet
        exact ⟨rfl, f0, f1, f2, f3, b0, b1, H0⟩
    · rcases Decidable.em (ky ≤ 0) with y1_ | y1_
      · have hy1 : decide (ky ≤ 0) = true := decide_eq_true y1_
        have hz1 : decide (0 < kz) = false := decide_eq_false (by rcases r2 with r2 | r2 | r2 <;> omega)
        clear r1 r2 r3
        have Hyx2 : Hid (angQ (x1 : Rat) (y1 : Rat) (x0 : Rat) (y0 : Rat) = 1) := Lib.hid Hyx.out
        clear Hyx
        clear y1_
        have hw9 : IntKind.i64.wrap (1) = 1 := by decide
        have hD := drawn_below w12
        replace f0 := f0.below hD
        replace f1 := f1.below hD
        replace f2 := f2.below hD
        replace f3 := f3.below hD
        replace f4 := f4.below hD
        replace f5 := f5.below hD
        replace b0 := b0.below hD
        replace b1 := b1.below hD
        replace b2 := b2.below hD
        replace hT := hT.keep hD hlt
        replace hlt := Nat.lt_of_lt_of_le hlt hD.size
        replace H0 := H0.trans (hD.mono H0.size)
        clear hD
        refine wp_region_noPanic ?_
        refine wp_region_held_drew (S := (fun V => V.cell? ⟨w7.heap.size, 0, none⟩ = some (.bool s0) ∧ V.cell? ⟨w7.heap.size, 1, none⟩ = some (.slice A0 n0 c0) ∧ V.cell? ⟨w7.heap.size, 2, none⟩ = some (.slice D0 m0 e0) ∧ V.cell? ⟨w7.heap.size, 3, none⟩ = some (.bool s1) ∧ V.cell? ⟨w7.heap.size, 4, none⟩ = some (.slice A1 n1 c1) ∧ V.cell? ⟨w7.heap.size, 5, none⟩ = some (.slice D1 m1 e1) ∧ V.cell? ⟨w7.heap.size + 1, 0, none⟩ = some (.bool s2) ∧ V.cell? ⟨w7.heap.size + 1, 1, none⟩ = some (.slice A2 n2 c2) ∧ V.cell? ⟨w7.heap.size + 1, 2, none⟩ = some (.slice D2 m2 e2) ∧ V.cell? ⟨w7.heap.size + 1, 3, none⟩ = some (.bool s3) ∧ V.cell? ⟨w7.heap.size + 1, 4, none⟩ = some (.slice A3 n3 c3) ∧ V.cell? ⟨w7.heap.size + 1, 5, none⟩ = some (.slice D3 m3 e3))) (by kernel_rfl) ⟨b0.cell 0 _ rfl, b0.cell 1 _ rfl, b0.cell 2 _ rfl, b0.cell 3 _ rfl, b0.cell 4 _ rfl, b0.cell 5 _ rfl, b1.cell 0 _ rfl, b1.cell 1 _ rfl, b1.cell 2 _ rfl, b1.cell 3 _ rfl, b1.cell 4 _ rfl, b1.cell 5 _ rfl⟩ (fun hHeld => ?_)
        generalize w12.drew = v13 at H0 hHeld f0 f1 f2 f3 f4 f5 b0 b1 b2 hT hlt ⊢
        refine wpAnyH_take (i := 0) (v := ?_) rfl (by kernel_rfl) (by kernel_rfl) (by kernel_rfl) (fun _ _ _ h => h) (Or.inl ⟨by rfl, ?_⟩) (by assumption) ?_
        rotate_left
        · (intro w hSw; (try dsimp only at hSw); go_simp; (try with_reducible rfl))
        (try simp only [List.getElem_toArray, List.getElem_cons_zero, Act.put, List.setIfInBounds_toArray, List.set_cons_zero, List.set_cons_succ])
        refine wpAnyH_take (i := 1) (v := ?_) rfl (by kernel_rfl) (by kernel_rfl) (by kernel_rfl) (fun _ _ _ h => h) (Or.inl ⟨by rfl, ?_⟩) (by assumption) ?_
        rotate_left
        · (intro w hSw; (try dsimp only at hSw); go_simp; (try with_reducible rfl))
        (try simp only [List.getElem_toArray, List.getElem_cons_succ, List.getElem_cons_zero, Act.put, List.setIfInBounds_toArray, List.set_cons_zero, List.set_cons_succ])
        refine wpAnyH_take (i := 3) (v := ?_) rfl (by kernel_rfl) (by kernel_rfl) (by kernel_rfl) (fun _ _ _ h => h) (Or.inl ⟨by rfl, ?_⟩) (by assumption) ?_
        rotate_left
        · (intro w hSw; (try dsimp only at hSw); go_simp; (try with_reducible rfl))
        (try simp only [List.getElem_toArray, List.getElem_cons_succ, List.getElem_cons_zero, Act.put, List.setIfInBounds_toArray, List.set_cons_zero, List.set_cons_succ])
        refine wpAnyH_take (i := 4) (v := ?_) rfl (by kernel_rfl) (by kernel_rfl) (by kernel_rfl) (fun _ _ _ h => h) (Or.inl ⟨by rfl, ?_⟩) (by assumption) ?_
        rotate_left
        · (intro w hSw; (try dsimp only at hSw); go_simp; (try with_reducible rfl))
        (try simp only [List.getElem_toArray, List.getElem_cons_succ, List.getElem_cons_zero, Act.put, List.setIfInBounds_toArray, List.set_cons_zero, List.set_cons_succ])
        refine wpAnyH_ready (rs := [2]) (by kernel_rfl) (by simp) (AllReadyH.cons (o := _) rfl (fun K hK => ?_) AllReadyH.nil)
        go_simp
        go_at_call 41
        refine (pangle_v f2.rq f3.rq f0.rq f1.rq (by omega) (by omega) Hyx2.out).mono ?_
        rintro e w14 ⟨rfl, hb⟩
        replace f0 := f0.below hb
        replace f1 := f1.below hb
        replace f2 := f2.below hb
        replace f3 := f3.below hb
        replace f4 := f4.below hb
        replace f5 := f5.below hb
        replace b0 := b0.below hb
        replace b1 := b1.below hb
        replace b2 := b2.below hb
        replace hT := hT.keep hb hlt
        replace hlt := Nat.lt_of_lt_of_le hlt hb.size
        replace H0 := H0.trans (hb.mono H0.size)
        clear hb
        go_wp2_with fail
        refine hK.out _ _ ⟨b0.cell 0 _ rfl, b0.cell 1 _ rfl, b0.cell 2 _ rfl, b0.cell 3 _ rfl, b0.cell 4 _ rfl, b0.cell 5 _ rfl, b1.cell 0 _ rfl, b1.cell 1 _ rfl, b1.cell 2 _ rfl, b1.cell 3 _ rfl, b1.cell 4 _ rfl, b1.cell 5 _ rfl⟩ (fun hHeld => ?_)
        clear hK K
        (try simp only [List.getElem_toArray, List.getElem_cons_succ, List.getElem_cons_zero, Act.put, List.setIfInBounds_toArray, List.set_cons_zero, List.set_cons_succ])
        refine wpAnyH_take (i := 5) (v := ?_) rfl (by kernel_rfl) (by kernel_rfl) (by kernel_rfl) (fun _ _ _ h => h) (Or.inl ⟨by rfl, ?_⟩) (by assumption) ?_
        rotate_left
        · (intro w hSw; (try dsimp only at hSw); go_simp; (try with_reducible rfl))
        (try simp only [List.getElem_toArray, List.getElem_cons_succ, List.getElem_cons_zero, Act.put, List.setIfInBounds_toArray, List.set_cons_zero, List.set_cons_succ])
        refine wpAnyH_take (i := 6) (v := ?_) rfl (by kernel_rfl) (by kernel_rfl) (by kernel_rfl) (fun _ _ _ h => h) (Or.inl ⟨by rfl, ?_⟩) (by assumption) ?_
        rotate_left
        · (intro w hSw; (try dsimp only at hSw); go_simp; (try with_reducible rfl))
        (try simp only [List.getElem_toArray, List.getElem_cons_succ, List.getElem_cons_zero, Act.put, List.setIfInBounds_toArray, List.set_cons_zero, List.set_cons_succ])
        refine wpAnyH_take (i := 7) (v := ?_) rfl (by kernel_rfl) (by kernel_rfl) (by kernel_rfl) (fun _ _ _ h => h) (Or.inl ⟨by rfl, ?_⟩) (by assumption) ?_
        rotate_left
        · (intro w hSw; (try dsimp only at hSw); go_simp; (try with_reducible rfl))
        (try simp only [List.getElem_toArray, List.getElem_cons_succ, List.getElem_cons_zero, Act.put, List.setIfInBounds_toArray, List.set_cons_zero, List.set_cons_succ])
        refine wpAnyH_take (i := 8) (v := ?_) rfl (by kernel_rfl) (by kernel_rfl) (by kernel_rfl) (fun _ _ _ h => h) (Or.inl ⟨by rfl, ?_⟩) (by assumption) ?_
        rotate_left
        · (intro w hSw; (try dsimp only at hSw); go_simp; (try with_reducible rfl))
        (try simp only [List.getElem_toArray, List.getElem_cons_succ, List.getElem_cons_zero, Act.put, List.setIfInBounds_toArray, List.set_cons_zero, List.set_cons_succ])
        refine wpAnyH_take (i := 9) (v := ?_) rfl (by kernel_rfl) (by kernel_rfl) (by kernel_rfl) (fun _ _ _ h => h) (Or.inl ⟨by rfl, ?_⟩) (by assumption) ?_
        rotate_left
        · (intro w hSw; (try dsimp only at hSw); go_simp; (try with_reducible rfl))
        (try simp only [List.getElem_toArray, List.getElem_cons_succ, List.getElem_cons_zero, Act.put, List.setIfInBounds_toArray, List.set_cons_zero, List.set_cons_succ])
        refine wpAnyH_take (i := 10) (v := ?_) rfl (by kernel_rfl) (by kernel_rfl) (by kernel_rfl) (fun _ _ _ h => h) (Or.inl ⟨by rfl, ?_⟩) (by assumption) ?_
        rotate_left
        · (intro w hSw; (try dsimp only at hSw); go_simp; (try with_reducible rfl))
        (try simp only [List.getElem_toArray, List.getElem_cons_succ, List.getElem_cons_zero, Act.put, List.setIfInBounds_toArray, List.set_cons_zero, List.set_cons_succ])
        refine wpAnyH_take (i := 11) (v := ?_) rfl (by kernel_rfl) (by kernel_rfl) (by kernel_rfl) (fun _ _ _ h => h) (Or.inl ⟨by rfl, ?_⟩) (by assumption) ?_
        rotate_left
        · (intro w hSw; (try dsimp only at hSw); go_simp; (try with_reducible rfl))
        (try simp only [List.getElem_toArray, List.getElem_cons_succ, List.getElem_cons_zero, Act.put, List.setIfInBounds_toArray, List.set_cons_zero, List.set_cons_succ])
        refine wpAnyH_take (i := 12) (v := ?_) rfl (by kernel_rfl) (by kernel_rfl) (by kernel_rfl) (fun _ _ _ h => h) (Or.inl ⟨by rfl, ?_⟩) (by assumption) ?_
        rotate_left
        · (intro w hSw; (try dsimp only at hSw); go_simp; (try with_reducible rfl))
        (try simp only [List.getElem_toArray, List.getElem_cons_succ, List.getElem_cons_zero, Act.put, List.setIfInBounds_toArray, List.set_cons_zero, List.set_cons_succ])
        refine wpAnyH_take (i := 13) (v := ?_) rfl (by kernel_rfl) (by kernel_rfl) (by kernel_rfl) (fun _ _ _ h => h) (Or.inl ⟨by rfl, ?_⟩) (by assumption) ?_
        rotate_left
        · (intro w hSw; (try dsimp only at hSw); go_simp; (try with_reducible rfl))
        (try simp only [List.getElem_toArray, List.getElem_cons_succ, List.getElem_cons_zero, Act.put, List.setIfInBounds_toArray, List.set_cons_zero, List.set_cons_succ])
        refine wpAnyH_take (i := 14) (v := ?_) rfl (by kernel_rfl) (by kernel_rfl) (by kernel_rfl) (fun _ _ _ h => h) (Or.inl ⟨by rfl, ?_⟩) (by assumption) ?_
        rotate_left
        · (intro w hSw; (try dsimp only at hSw); go_simp; (try with_reducible rfl))
        (try simp only [List.getElem_toArray, List.getElem_cons_succ, List.getElem_cons_zero, Act.put, List.setIfInBounds_toArray, List.set_cons_zero, List.set_cons_succ])
        refine wpAnyH_take (i := 15) (v := ?_) rfl (by kernel_rfl) (by kernel_rfl) (by kernel_rfl) (fun _ _ _ h => h) (Or.inl ⟨by rfl, ?_⟩) (by assumption) ?_
        rotate_left
        · (intro w hSw; (try dsimp only at hSw); go_simp; (try with_reducible rfl))
        (try simp only [List.getElem_toArray, List.getElem_cons_succ, List.getElem_cons_zero, Act.put, List.setIfInBounds_toArray, List.set_cons_zero, List.set_cons_succ])
        refine wpAnyH_take (i := 16) (v := ?_) rfl (by kernel_rfl) (by kernel_rfl) (by kernel_rfl) (fun _ _ _ h => h) (Or.inl ⟨by rfl, ?_⟩) (by assumption) ?_
        rotate_left
        · (intro w hSw; (try dsimp only at hSw); go_simp; (try with_reducible rfl))
        (try simp only [List.getElem_toArray, List.getElem_cons_succ, List.getElem_cons_zero, Act.put, List.setIfInBounds_toArray, List.set_cons_zero, List.set_cons_succ])
        refine wpAnyH_take (i := 17) (v := ?_) rfl (by kernel_rfl) (by kernel_rfl) (by kernel_rfl) (fun _ _ _ h => h) (Or.inl ⟨by rfl, ?_⟩) (by assumption) ?_
        rotate_left
        · (intro w hSw; (try dsimp only at hSw); go_simp; (try with_reducible rfl))
        (try simp only [List.getElem_toArray, List.getElem_cons_succ, List.getElem_cons_zero, Act.put, List.setIfInBounds_toArray, List.set_cons_zero, List.set_cons_succ])
        refine wpAnyH_take (i := 18) (v := ?_) rfl (by kernel_rfl) (by kernel_rfl) (by kernel_rfl) (fun _ _ _ h => h) (Or.inl ⟨by rfl, ?_⟩) (by assumption) ?_
        rotate_left
        · (intro w hSw; (try dsimp only at hSw); go_simp; (try with_reducible rfl))
        (try simp only [List.getElem_toArray, List.getElem_cons_succ, List.getElem_cons_zero, Act.put, List.setIfInBounds_toArray, List.set_cons_zero, List.set_cons_succ])
        refine wpAnyH_take (i := 19) (v := ?_) rfl (by kernel_rfl) (by kernel_rfl) (by kernel_rfl) (fun _ _ _ h => h) (Or.inl ⟨by rfl, ?_⟩) (by assumption) ?_
        rotate_left
        · (intro w hSw; (try dsimp only at hSw); go_simp; (try with_reducible rfl))
        (try simp only [List.getElem_toArray, List.getElem_cons_succ, List.getElem_cons_zero, Act.put, List.setIfInBounds_toArray, List.set_cons_zero, List.set_cons_succ])
        refine wpAnyH_take (i := 20) (v := ?_) rfl (by kernel_rfl) (by kernel_rfl) (by kernel_rfl) (fun _ _ _ h => h) (Or.inl ⟨by rfl, ?_⟩) (by assumption) ?_
        rotate_left
        · (intro w hSw; (try dsimp only at hSw); go_simp; (try with_reducible rfl))
        (try simp only [List.getElem_toArray, List.getElem_cons_succ, List.getElem_cons_zero, Act.put, List.setIfInBounds_toArray, List.set_cons_zero, List.set_cons_succ])
        refine wpAnyH_take (i := 21) (v := ?_) rfl (by kernel_rfl) (by kernel_rfl) (by kernel_rfl) (fun _ _ _ h => h) (Or.inl ⟨by rfl, ?_⟩) (by assumption) ?_
        rotate_left
        · (intro w hSw; (try dsimp only at hSw); go_simp; (try with_reducible rfl))
        (try simp only [List.getElem_toArray, List.getElem_cons_succ, List.getElem_cons_zero, Act.put, List.setIfInBounds_toArray, List.set_cons_zero, List.set_cons_succ])
        refine wpAnyH_take (i := 22) (v := undef) rfl (by kernel_rfl) (by kernel_rfl) (by kernel_rfl) (fun _ _ _ h => h) (Or.inr ⟨by rfl, rfl⟩) (by assumption) ?_
        (try simp only [List.getElem_toArray, List.getElem_cons_succ, List.getElem_cons_zero, Act.put, List.setIfInBounds_toArray, List.set_cons_zero, List.set_cons_succ])
        refine wpAnyH_take (i := 23) (v := undef) rfl (by kernel_rfl) (by kernel_rfl) (by kernel_rfl) (fun _ _ _ h => h) (Or.inr ⟨by rfl, rfl⟩) (by assumption) ?_
        (try simp only [List.getElem_toArray, List.getElem_cons_succ, List.getElem_cons_zero, Act.put, List.setIfInBounds_toArray, List.set_cons_zero, List.set_cons_succ])
        refine wpAnyH_take (i := 24) (v := ?_) rfl (by kernel_rfl) (by kernel_rfl) (by kernel_rfl) (fun _ _ _ h => h) (Or.inl ⟨by rfl, ?_⟩) (by assumption) ?_
        rotate_left
        · (intro w hSw; (try dsimp only at hSw); go_simp; (try with_reducible rfl))
        (try simp only [List.getElem_toArray, List.getElem_cons_succ, List.getElem_cons_zero, Act.put, List.setIfInBounds_toArray, List.set_cons_zero, List.set_cons_succ])
        refine wpAnyH_take (i := 25) (v := ?_) rfl (by kernel_rfl) (by kernel_rfl) (by kernel_rfl) (fun _ _ _ h => h) (Or.inl ⟨by rfl, ?_⟩) (by assumption) ?_
        rotate_left
        · (intro w hSw; (try dsimp only at hSw); go_simp; (try with_reducible rfl))
        (try simp only [List.getElem_toArray, List.getElem_cons_succ, List.getElem_cons_zero, Act.put, List.setIfInBounds_toArray, List.set_cons_zero, List.set_cons_succ])
        refine wpAnyH_take (i := 26) (v := undef) rfl (by kernel_rfl) (by kernel_rfl) (by kernel_rfl) (fun _ _ _ h => h) (Or.inr ⟨by rfl, rfl⟩) (by assumption) ?_
        (try simp only [List.getElem_toArray, List.getElem_cons_succ, List.getElem_cons_zero, Act.put, List.setIfInBounds_toArray, List.set_cons_zero, List.set_cons_succ])
        refine wpAnyH_take (i := 27) (v := undef) rfl (by kernel_rfl) (by kernel_rfl) (by kernel_rfl) (fun _ _ _ h => h) (Or.inr ⟨by rfl, rfl⟩) (by assumption) ?_
        (try simp only [List.getElem_toArray, List.getElem_cons_succ, List.getElem_cons_zero, Act.put, List.setIfInBounds_toArray, List.set_cons_zero, List.set_cons_succ])
        refine wpAnyH_take (i := 28) (v := ?_) rfl (by kernel_rfl) (by kernel_rfl) (by kernel_rfl) (fun _ _ _ h => h) (Or.inl ⟨by rfl, ?_⟩) (by assumption) ?_
        rotate_left
        · (intro w hSw; (try dsimp only at hSw); go_simp; (try with_reducible rfl))
        (try simp only [List.getElem_toArray, List.getElem_cons_succ, List.getElem_cons_zero, Act.put, List.setIfInBounds_toArray, List.set_cons_zero, List.set_cons_succ])
        refine wpAnyH_take (i := 29) (v := ?_) rfl (by kernel_rfl) (by kernel_rfl) (by kernel_rfl) (fun _ _ _ h => h) (Or.inl ⟨by rfl, ?_⟩) (by assumption) ?_
        rotate_left
        · (intro w hSw; (try dsimp only at hSw); go_simp; (try with_reducible rfl))
        (try simp only [List.getElem_toArray, List.getElem_cons_succ, List.getElem_cons_zero, Act.put, List.setIfInBounds_toArray, List.set_cons_zero, List.set_cons_succ])
        refine wpAnyH_take (i := 30) (v := ?_) rfl (by kernel_rfl) (by kernel_rfl) (by kernel_rfl) (fun _ _ _ h => h) (Or.inl ⟨by rfl, ?_⟩) (by assumption) ?_
        rotate_left
        · (intro w hSw; (try dsimp only at hSw); go_simp; (try with_reducible rfl))
        (try simp only [List.getElem_toArray, List.getElem_cons_succ, List.getElem_cons_zero, Act.put, List.setIfInBounds_toArray, List.set_cons_zero, List.set_cons_succ])
        refine wpAnyH_take (i := 31) (v := ?_) rfl (by kernel_rfl) (by kernel_rfl) (by kernel_rfl) (fun _ _ _ h => h) (Or.inl ⟨by rfl, ?_⟩) (by assumption) ?_
        rotate_left
        · (intro w hSw; (try dsimp only at hSw); go_simp; (try with_reducible rfl))
        (try simp only [List.getElem_toArray, List.getElem_cons_succ, List.getElem_cons_zero, Act.put, List.setIfInBounds_toArray, List.set_cons_zero, List.set_cons_succ])
        refine wpAnyH_take (i := 32) (v := ?_) rfl (by kernel_rfl) (by kernel_rfl) (by kernel_rfl) (fun _ _ _ h => h) (Or.inl ⟨by rfl, ?_⟩) (by assumption) ?_
        rotate_left
        · (intro w hSw; (try dsimp only at hSw); go_simp; (try with_reducible rfl))
        (try simp only [List.getElem_toArray, List.getElem_cons_succ, List.getElem_cons_zero, Act.put, List.setIfInBounds_toArray, List.set_cons_zero, List.set_cons_succ])
        refine wpAnyH_take (i := 37) (v := ?_) rfl (by kernel_rfl) (by kernel_rfl) (by kernel_rfl) (fun _ _ _ h => h) (Or.inl ⟨by rfl, ?_⟩) (by assumption) ?_
        rotate_left
        · (intro w hSw; (try dsimp only at hSw); go_simp; (try with_reducible rfl))
        (try simp only [List.getElem_toArray, List.getElem_cons_succ, List.getElem_cons_zero, Act.put, List.setIfInBounds_toArray, List.set_cons_zero, List.set_cons_succ])
        refine wpAnyH_ready (rs := [33]) (by kernel_rfl) (by simp) (AllReadyH.cons (o := _) rfl (fun K hK => ?_) AllReadyH.nil)
        go_simp
        go_at_call 36
        refine (next_any 9 (by omega) (by omega) hT).mono ?_
        rintro e w15 ⟨r, rfl, hr, hT', hg⟩
        replace f0 := f0.tape hT hg
        replace f1 := f1.tape hT hg
        replace f2 := f2.tape hT hg
        replace f3 := f3.tape hT hg
        replace f4 := f4.tape hT hg
        replace f5 := f5.tape hT hg
        replace b0 := b0.other hg (by omega)
        replace b1 := b1.other hg (by omega)
        replace b2 := b2.other hg (by omega)
        replace hlt := Nat.lt_of_lt_of_le hlt hg.size
        replace H0 := H0.grown hg H0.size (by rintro k hk; injection hk with hk; omega)
        clear hT
        have hT := hT'
        clear hT' hg
        have wr := wrap1 hr
        clear hT hlt
        go_wp2_with fail
        refine hK.out _ _ ⟨b0.cell 0 _ rfl, b0.cell 1 _ rfl, b0.cell 2 _ rfl, b0.cell 3 _ rfl, b0.cell 4 _ rfl, b0.cell 5 _ rfl, b1.cell 0 _ rfl, b1.cell 1 _ rfl, b1.cell 2 _ rfl, b1.cell 3 _ rfl, b1.cell 4 _ rfl, b1.cell 5 _ rfl⟩ (fun hHeld => ?_)
        clear hK K
        (try simp only [List.getElem_toArray, List.getElem_cons_succ, List.getElem_cons_zero, Act.put, List.setIfInBounds_toArray, List.set_cons_zero, List.set_cons_succ])
        refine wpAnyH_take (i := 34) (v := ?_) rfl (by kernel_rfl) (by kernel_rfl) (by kernel_rfl) (fun _ _ _ h => h) (Or.inl ⟨by rfl, ?_⟩) (by assumption) ?_
        rotate_left
        · (intro w hSw; (try dsimp only at hSw); go_simp; (try with_reducible rfl))
        (try simp only [List.getElem_toArray, List.getElem_cons_succ, List.getElem_cons_zero, Act.put, List.setIfInBounds_toArray, List.set_cons_zero, List.set_cons_succ])
        refine wpAnyH_ready (rs := [35]) (by kernel_rfl) (by simp) (AllReadyH.cons (o := _) rfl (fun K hK => ?_) AllReadyH.nil)
        go_simp
        go_at_call 48
        refine (npart_v (d := 4) (1 + (r : Int)) (by omega) (by omega) (by omega)).mono ?_
        rintro e w16 ⟨s8, A8, n8, c8, D8, m8, e8, rfl, p8, hb⟩
        replace f0 := f0.below hb
        replace f1 := f1.below hb
        replace f2 := f2.below hb
        replace f3 := f3.below hb
        replace f4 := f4.below hb
        replace f5 := f5.below hb
        replace b0 := b0.below hb
        replace b1 := b1.below hb
        replace b2 := b2.below hb
        replace H0 := H0.trans (hb.mono H0.size)
        clear hb
        go_wp2_with fail
        refine hK.out _ _ ⟨b0.cell 0 _ rfl, b0.cell 1 _ rfl, b0.cell 2 _ rfl, b0.cell 3 _ rfl, b0.cell 4 _ rfl, b0.cell 5 _ rfl, b1.cell 0 _ rfl, b1.cell 1 _ rfl, b1.cell 2 _ rfl, b1.cell 3 _ rfl, b1.cell 4 _ rfl, b1.cell 5 _ rfl⟩ (fun hHeld => ?_)
        clear hK K
        (try simp only [List.getElem_toArray, List.getElem_cons_succ, List.getElem_cons_zero, Act.put, List.setIfInBounds_toArray, List.set_cons_zero, List.set_cons_succ])
        refine wpAnyH_ready (rs := [36]) (by kernel_rfl) (by simp) (AllReadyH.cons (o := _) rfl (fun K hK => ?_) AllReadyH.nil)
        go_simp
        go_at_call 30
        refine (toq_v p8 (by omega)).mono ?_
        rintro e w17 ⟨s9, A9, n9, c9, D9, m9, e9, rfl, p9, hb⟩
        replace f0 := f0.below hb
        replace f1 := f1.below hb
        replace f2 := f2.below hb
        replace f3 := f3.below hb
        replace f4 := f4.below hb
        replace f5 := f5.below hb
        replace p8 := p8.below hb
        replace b0 := b0.below hb
        replace b1 := b1.below hb
        replace b2 := b2.below hb
        replace H0 := H0.trans (hb.mono H0.size)
        clear hb
        clear p8
        go_wp2_with fail
        refine hK.out _ _ ⟨b0.cell 0 _ rfl, b0.cell 1 _ rfl, b0.cell 2 _ rfl, b0.cell 3 _ rfl, b0.cell 4 _ rfl, b0.cell 5 _ rfl, b1.cell 0 _ rfl, b1.cell 1 _ rfl, b1.cell 2 _ rfl, b1.cell 3 _ rfl, b1.cell 4 _ rfl, b1.cell 5 _ rfl⟩ (fun hHeld => ?_)
        clear hK K
        (try simp only [List.getElem_toArray, List.getElem_cons_succ, List.getElem_cons_zero, Act.put, List.setIfInBounds_toArray, List.set_cons_zero, List.set_cons_succ])
        refine wpAnyH_ready (rs := [38]) (by kernel_rfl) (by simp) (AllReadyH.cons (o := _) rfl (fun K hK => ?_) AllReadyH.nil)
        go_simp
        go_at_call 27
        refine (pscale_v p9.rq f0.rq f1.rq (by omega) (by omega)).mono ?_
        rintro e w18 ⟨s10, A10, n10, c10, D10, m10, e10, s11, A11, n11, c11, D11, m11, e11, rfl, p10, p11, hb⟩
        replace f0 := f0.below hb
        replace f1 := f1.below hb
        replace f2 := f2.below hb
        replace f3 := f3.below hb
        replace f4 := f4.below hb
        replace f5 := f5.below hb
        replace p9 := p9.below hb
        replace b0 := b0.below hb
        replace b1 := b1.below hb
        replace b2 := b2.below hb
        replace H0 := H0.trans (hb.mono H0.size)
        clear hb
        clear p9
        go_wp2_with fail
        refine hK.out _ _ ⟨b0.cell 0 _ rfl, b0.cell 1 _ rfl, b0.cell 2 _ rfl, b0.cell 3 _ rfl, b0.cell 4 _ rfl, b0.cell 5 _ rfl, b1.cell 0 _ rfl, b1.cell 1 _ rfl, b1.cell 2 _ rfl, b1.cell 3 _ rfl, b1.cell 4 _ rfl, b1.cell 5 _ rfl⟩ (fun hHeld => ?_)
        clear hK K
        (try simp only [List.getElem_toArray, List.getElem_cons_succ, List.getElem_cons_zero, Act.put, List.setIfInBounds_toArray, List.set_cons_zero, List.set_cons_succ])
        refine wpAnyH_ready (rs := [39]) (by kernel_rfl) (by simp) (AllReadyH.cons (o := _) rfl (fun K hK => ?_) AllReadyH.nil)
        go_simp
        go_at_call 41
        refine (pangle_v f0.rq f1.rq p10.rq p11.rq (by omega) (by omega) (ang_scale _ _ _ (part_pos r))).mono ?_
        rintro e w19 ⟨rfl, hb⟩
        replace f0 := f0.below hb
        replace f1 := f1.below hb
        replace f2 := f2.below hb
        replace f3 := f3.below hb
        replace f4 := f4.below hb
        replace f5 := f5.below hb
        replace p10 := p10.below hb
        replace p11 := p11.below hb
        replace b0 := b0.below hb
        replace b1 := b1.below hb
        replace b2 := b2.below hb
        replace H0 := H0.trans (hb.mono H0.size)
        clear hb
        clear p10
        clear p11
        go_wp2_with fail
        refine hK.out _ _ ⟨b0.cell 0 _ rfl, b0.cell 1 _ rfl, b0.cell 2 _ rfl, b0.cell 3 _ rfl, b0.cell 4 _ rfl, b0.cell 5 _ rfl, b1.cell 0 _ rfl, b1.cell 1 _ rfl, b1.cell 2 _ rfl, b1.cell 3 _ rfl, b1.cell 4 _ rfl, b1.cell 5 _ rfl⟩ (fun hHeld => ?_)
        clear hK K
        (try simp only [List.getElem_toArray, List.getElem_cons_succ, List.getElem_cons_zero, Act.put, List.setIfInBounds_toArray, List.set_cons_zero, List.set_cons_succ])
        refine wpAnyH_take (i := 40) (v := ?_) rfl (by kernel_rfl) (by kernel_rfl) (by kernel_rfl) (fun _ _ _ h => h) (Or.inl ⟨by rfl, ?_⟩) (by assumption) ?_
        rotate_left
        · (intro w hSw; (try dsimp only at hSw); go_simp; (try with_reducible rfl))
        (try simp only [List.getElem_toArray, List.getElem_cons_succ, List.getElem_cons_zero, Act.put, List.setIfInBounds_toArray, List.set_cons_zero, List.set_cons_succ])
        refine wpAnyH_take (i := 41) (v := ?_) rfl (by kernel_rfl) (by kernel_rfl) (by kernel_rfl) (fun _ _ _ h => h) (Or.inl ⟨by rfl, ?_⟩) (by assumption) ?_
        rotate_left
        · (intro w hSw; (try dsimp only at hSw); go_simp; (try with_reducible rfl))
        (try simp only [List.getElem_toArray, List.getElem_cons_succ, List.getElem_cons_zero, Act.put, List.setIfInBounds_toArray, List.set_cons_zero, List.set_cons_succ])
        refine wpAnyH_done (by kernel_rfl) ?_ _
        refine NoPanic.normal ?_
        go_wp2_with fail
        go_meet
        exact ⟨rfl, f0, f1, f2, f3, b0, b1, H0⟩
      · have hy1 : decide (ky ≤ 0) = false := decide_eq_false y1_
        clear r1 r2 r3
        have Hyx2 : Hid (angQ (x1 : Rat) (y1 : Rat) (x0 : Rat) (y0 : Rat) = 1) := Lib.hid Hyx.out
        clear Hyx
        clear y1_
        have hw9 : IntKind.i64.wrap (1) = 1 := by decide
        have hD := drawn_below w12
        replace f0 := f0.below hD
        replace f1 := f1.below hD
        replace f2 := f2.below hD
        replace f3 := f3.below hD
        replace f4 := f4.below hD
        replace f5 := f5.below hD
        replace b0 := b0.below hD
        replace b1 := b1.below hD
        replace b2 := b2.below hD
        replace hT := hT.keep hD hlt
        replace hlt := Nat.lt_of_lt_of_le hlt hD.size
        replace H0 := H0.trans (hD.mono H0.size)
        clear hD
        refine wp_region_noPanic ?_
        refine wp_region_held_drew (S := (fun V => V.cell? ⟨w7.heap.size, 0, none⟩ = some (.bool s0) ∧ V.cell? ⟨w7.heap.size, 1, none⟩ = some (.slice A0 n0 c0) ∧ V.cell? ⟨w7.heap.size, 2, none⟩ = some (.slice D0 m0 e0) ∧ V.cell? ⟨w7.heap.size, 3, none⟩ = some (.bool s1) ∧ V.cell? ⟨w7.heap.size, 4, none⟩ = some (.slice A1 n1 c1) ∧ V.cell? ⟨w7.heap.size, 5, none⟩ = some (.slice D1 m1 e1) ∧ V.cell? ⟨w7.heap.size + 1, 0, none⟩ = some (.bool s2) ∧ V.cell? ⟨w7.heap.size + 1, 1, none⟩ = some (.slice A2 n2 c2) ∧ V.cell? ⟨w7.heap.size + 1, 2, none⟩ = some (.slice D2 m2 e2) ∧ V.cell? ⟨w7.heap.size + 1, 3, none⟩ = some (.bool s3) ∧ V.cell? ⟨w7.heap.size + 1, 4, none⟩ = some (.slice A3 n3 c3) ∧ V.cell? ⟨w7.heap.size + 1, 5, none⟩ = some (.slice D3 m3 e3))) (by kernel_rfl) ⟨b0.cell 0 _ rfl, b0.cell 1 _ rfl, b0.cell 2 _ rfl, b0.cell 3 _ rfl, b0.cell 4 _ rfl, b0.cell 5 _ rfl, b1.cell 0 _ rfl, b1.cell 1 _ rfl, b1.cell 2 _ rfl, b1.cell 3 _ rfl, b1.cell 4 _ rfl, b1.cell 5 _ rfl⟩ (fun hHeld => ?_)
        generalize w12.drew = v13 at H0 hHeld f0 f1 f2 f3 f4 f5 b0 b1 b2 hT hlt ⊢
        refine wpAnyH_take (i := 0) (v := ?_) rfl (by kernel_rfl) (by kernel_rfl) (by kernel_rfl) (fun _ _ _ h => h) (Or.inl ⟨by rfl, ?_⟩) (by assumption) ?_
        rotate_left
        · (intro w hSw; (try dsimp only at hSw); go_simp; (try with_reducible rfl))
        (try simp only [List.getElem_toArray, List.getElem_cons_zero, Act.put, List.setIfInBounds_toArray, List.set_cons_zero, List.set_cons_succ])
        refine wpAnyH_take (i := 1) (v := ?_) rfl (by kernel_rfl) (by kernel_rfl) (by kernel_rfl) (fun _ _ _ h => h) (Or.inl ⟨by rfl, ?_⟩) (by assumption) ?_
        rotate_left
        · (intro w hSw; (try dsimp only at hSw); go_simp; (try with_reducible rfl))
        (try simp only [List.getElem_toArray, List.getElem_cons_succ, List.getElem_cons_zero, Act.put, List.setIfInBounds_toArray, List.set_cons_zero, List.set_cons_succ])
        refine wpAnyH_take (i := 3) (v := ?_) rfl (by kernel_rfl) (by kernel_rfl) (by kernel_rfl) (fun _ _ _ h => h) (Or.inl ⟨by rfl, ?_⟩) (by assumption) ?_
        rotate_left
        · (intro w hSw; (try dsimp only at hSw); go_simp; (try with_reducible rfl))
        (try simp only [List.getElem_toArray, List.getElem_cons_succ, List.getElem_cons_zero, Act.put, List.setIfInBounds_toArray, List.set_cons_zero, List.set_cons_succ])
        refine wpAnyH_take (i := 4) (v := ?_) rfl (by kernel_rfl) (by kernel_rfl) (by kernel_rfl) (fun _ _ _ h => h) (Or.inl ⟨by rfl, ?_⟩) (by assumption) ?_
        rotate_left
        · (intro w hSw; (try dsimp only at hSw); go_simp; (try with_reducible rfl))
        (try simp only [List.getElem_toArray, List.getElem_cons_succ, List.getElem_cons_zero, Act.put, List.setIfInBounds_toArray, List.set_cons_zero, List.set_cons_succ])
        refine wpAnyH_ready (rs := [2]) (by kernel_rfl) (by simp) (AllReadyH.cons (o := _) rfl (fun K hK => ?_) AllReadyH.nil)
        go_simp
        go_at_call 41
        refine (pangle_v f2.rq f3.rq f0.rq f1.rq (by omega) (by omega) Hyx2.out).mono ?_
        rintro e w14 ⟨rfl, hb⟩
        replace f0 := f0.below hb
        replace f1 := f1.below hb
        replace f2 := f2.below hb
        replace f3 := f3.below hb
        replace f4 := f4.below hb
        replace f5 := f5.below hb
        replace b0 := b0.below hb
        replace b1 := b1.below hb
        replace b2 := b2.below hb
        replace hT := hT.keep hb hlt
        replace hlt := Nat.lt_of_lt_of_le hlt hb.size
        replace H0 := H0.trans (hb.mono H0.size)
        clear hb
        go_wp2_with fail
        refine hK.out _ _ ⟨b0.cell 0 _ rfl, b0.cell 1 _ rfl, b0.cell 2 _ rfl, b0.cell 3 _ rfl, b0.cell 4 _ rfl, b0.cell 5 _ rfl, b1.cell 0 _ rfl, b1.cell 1 _ rfl, b1.cell 2 _ rfl, b1.cell 3 _ rfl, b1.cell 4 _ rfl, b1.cell 5 _ rfl⟩ (fun hHeld => ?_)
        clear hK K
        (try simp only [List.getElem_toArray, List.getElem_cons_succ, List.getElem_cons_zero, Act.put, List.setIfInBounds_toArray, List.set_cons_zero, List.set_cons_succ])
        refine wpAnyH_take (i := 5) (v := ?_) rfl (by kernel_rfl) (by kernel_rfl) (by kernel_rfl) (fun _ _ _ h => h) (Or.inl ⟨by rfl, ?_⟩) (by assumption) ?_
        rotate_left
        · (intro w hSw; (try dsimp only at hSw); go_simp; (try with_reducible rfl))
        (try simp only [List.getElem_toArray, List.getElem_cons_succ, List.getElem_cons_zero, Act.put, List.setIfInBounds_toArray, List.set_cons_zero, List.set_cons_succ])
        refine wpAnyH_take (i := 6) (v := ?_) rfl (by kernel_rfl) (by kernel_rfl) (by kernel_rfl) (fun _ _ _ h => h) (Or.inl ⟨by rfl, ?_⟩) (by assumption) ?_
        rotate_left
        · (intro w hSw; (try dsimp only at hSw); go_simp; (try with_reducible rfl))
        (try simp only [List.getElem_toArray, List.getElem_cons_succ, List.getElem_cons_zero, Act.put, List.setIfInBounds_toArray, List.set_cons_zero, List.set_cons_succ])
        refine wpAnyH_take (i := 7) (v := ?_) rfl (by kernel_rfl) (by kernel_rfl) (by kernel_rfl) (fun _ _ _ h => h) (Or.inl ⟨by rfl, ?_⟩) (by assumption) ?_
        rotate_left
        · (intro w hSw; (try dsimp only at hSw); go_simp; (try with_reducible rfl))
        (try simp only [List.getElem_toArray, List.getElem_cons_succ, List.getElem_cons_zero, Act.put, List.setIfInBounds_toArray, List.set_cons_zero, List.set_cons_succ])
        refine wpAnyH_take (i := 8) (v := ?_) rfl (by kernel_rfl) (by kernel_rfl) (by kernel_rfl) (fun _ _ _ h => h) (Or.inl ⟨by rfl, ?_⟩) (by assumption) ?_
        rotate_left
        · (intro w hSw; (try dsimp only at hSw); go_simp; (try with_reducible rfl))
        (try simp only [List.getElem_toArray, List.getElem_cons_succ, List.getElem_cons_zero, Act.put, List.setIfInBounds_toArray, List.set_cons_zero, List.set_cons_succ])
        refine wpAnyH_take (i := 9) (v := ?_) rfl (by kernel_rfl) (by kernel_rfl) (by kernel_rfl) (fun _ _ _ h => h) (Or.inl ⟨by rfl, ?_⟩) (by assumption) ?_
        rotate_left
        · (intro w hSw; (try dsimp only at hSw); go_simp; (try with_reducible rfl))
        (try simp only [List.getElem_toArray, List.getElem_cons_succ, List.getElem_cons_zero, Act.put, List.setIfInBounds_toArray, List.set_cons_zero, List.set_cons_succ])
        refine wpAnyH_take (i := 10) (v := ?_) rfl (by kernel_rfl) (by kernel_rfl) (by kernel_rfl) (fun _ _ _ h => h) (Or.inl ⟨by rfl, ?_⟩) (by assumption) ?_
        rotate_left
        · (intro w hSw; (try dsimp only at hSw); go_simp; (try with_reducible rfl))
        (try simp only [List.getElem_toArray, List.getElem_cons_succ, List.getElem_cons_zero, Act.put, List.setIfInBounds_toArray, List.set_cons_zero, List.set_cons_succ])
        refine wpAnyH_take (i := 11) (v := ?_) rfl (by kernel_rfl) (by kernel_rfl) (by kernel_rfl) (fun _ _ _ h => h) (Or.inl ⟨by rfl, ?_⟩) (by assumption) ?_
        rotate_left
        · (intro w hSw; (try dsimp only at hSw); go_simp; (try with_reducible rfl))
        (try simp only [List.getElem_toArray, List.getElem_cons_succ, List.getElem_cons_zero, Act.put, List.setIfInBounds_toArray, List.set_cons_zero, List.set_cons_succ])
        refine wpAnyH_take (i := 12) (v := ?_) rfl (by kernel_rfl) (by kernel_rfl) (by kernel_rfl) (fun _ _ _ h => h) (Or.inl ⟨by rfl, ?_⟩) (by assumption) ?_
        rotate_left
        · (intro w hSw; (try dsimp only at hSw); go_simp; (try with_reducible rfl))
        (try simp only [List.getElem_toArray, List.getElem_cons_succ, List.getElem_cons_zero, Act.put, List.setIfInBounds_toArray, List.set_cons_zero, List.set_cons_succ])
        refine wpAnyH_take (i := 13) (v := ?_) rfl (by kernel_rfl) (by kernel_rfl) (by kernel_rfl) (fun _ _ _ h => h) (Or.inl ⟨by rfl, ?_⟩) (by assumption) ?_
        rotate_left
        · (intro w hSw; (try dsimp only at hSw); go_simp; (try with_reducible rfl))
        (try simp only [List.getElem_toArray, List.getElem_cons_succ, List.getElem_cons_zero, Act.put, List.setIfInBounds_toArray, List.set_cons_zero, List.set_cons_succ])
        refine wpAnyH_take (i := 14) (v := undef) rfl (by kernel_rfl) (by kernel_rfl) (by kernel_rfl) (fun _ _ _ h => h) (Or.inr ⟨by rfl, rfl⟩) (by assumption) ?_
        (try simp only [List.getElem_toArray, List.getElem_cons_succ, List.getElem_cons_zero, Act.put, List.setIfInBounds_toArray, List.set_cons_zero, List.set_cons_succ])
        refine wpAnyH_take (i := 15) (v := undef) rfl (by kernel_rfl) (by kernel_rfl) (by kernel_rfl) (fun _ _ _ h => h) (Or.inr ⟨by rfl, rfl⟩) (by assumption) ?_
        (try simp only [List.getElem_toArray, List.getElem_cons_succ, List.getElem_cons_zero, Act.put, List.setIfInBounds_toArray, List.set_cons_zero, List.set_cons_succ])
        refine wpAnyH_take (i := 16) (v := ?_) rfl (by kernel_rfl) (by kernel_rfl) (by kernel_rfl) (fun _ _ _ h => h) (Or.inl ⟨by rfl, ?_⟩) (by assumption) ?_
        rotate_left
        · (intro w hSw; (try dsimp only at hSw); go_simp; (try with_reducible rfl))
        (try simp only [List.getElem_toArray, List.getElem_cons_succ, List.getElem_cons_zero, Act.put, List.setIfInBounds_toArray, List.set_cons_zero, List.set_cons_succ])
        refine wpAnyH_take (i := 17) (v := ?_) rfl (by kernel_rfl) (by kernel_rfl) (by kernel_rfl) (fun _ _ _ h => h) (Or.inl ⟨by rfl, ?_⟩) (by assumption) ?_
        rotate_left
        · (intro w hSw; (try dsimp only at hSw); go_simp; (try with_reducible rfl))
        (try simp only [List.getElem_toArray, List.getElem_cons_succ, List.getElem_cons_zero, Act.put, List.setIfInBounds_toArray, List.set_cons_zero, List.set_cons_succ])
        refine wpAnyH_take (i := 18) (v := ?_) rfl (by kernel_rfl) (by kernel_rfl) (by kernel_rfl) (fun _ _ _ h => h) (Or.inl ⟨by rfl, ?_⟩) (by assumption) ?_
        rotate_left
        · (intro w hSw; (try dsimp only at hSw); go_simp; (try with_reducible rfl))
        (try simp only [List.getElem_toArray, List.getElem_cons_succ, List.getElem_cons_zero, Act.put, List.setIfInBounds_toArray, List.set_cons_zero, List.set_cons_succ])
        refine wpAnyH_take (i := 19) (v := ?_) rfl (by kernel_rfl) (by kernel_rfl) (by kernel_rfl) (fun _ _ _ h => h) (Or.inl ⟨by rfl, ?_⟩) (by assumption) ?_
        rotate_left
        · (intro w hSw; (try dsimp only at hSw); go_simp; (try with_reducible rfl))
        (try simp only [List.getElem_toArray, List.getElem_cons_succ, List.getElem_cons_zero, Act.put, List.setIfInBounds_toArray, List.set_cons_zero, List.set_cons_succ])
        refine wpAnyH_take (i := 20) (v := ?_) rfl (by kernel_rfl) (by kernel_rfl) (by kernel_rfl) (fun _ _ _ h => h) (Or.inl ⟨by rfl, ?_⟩) (by assumption) ?_
        rotate_left
        · (intro w hSw; (try dsimp only at hSw); go_simp; (try with_reducible rfl))
        (try simp only [List.getElem_toArray, List.getElem_cons_succ, List.getElem_cons_zero, Act.put, List.setIfInBounds_toArray, List.set_cons_zero, List.set_cons_succ])
        refine wpAnyH_take (i := 21) (v := ?_) rfl (by kernel_rfl) (by kernel_rfl) (by kernel_rfl) (fun _ _ _ h => h) (Or.inl ⟨by rfl, ?_⟩) (by assumption) ?_
        rotate_left
        · (intro w hSw; (try dsimp only at hSw); go_simp; (try with_reducible rfl))
        (try simp only [List.getElem_toArray, List.getElem_cons_succ, List.getElem_cons_zero, Act.put, List.setIfInBounds_toArray, List.set_cons_zero, List.set_cons_succ])
        refine wpAnyH_take (i := 22) (v := undef) rfl (by kernel_rfl) (by kernel_rfl) (by kernel_rfl) (fun _ _ _ h => h) (Or.inr ⟨by rfl, rfl⟩) (by assumption) ?_
        (try simp only [List.getElem_toArray, List.getElem_cons_succ, List.getElem_cons_zero, Act.put, List.setIfInBounds_toArray, List.set_cons_zero, List.set_cons_succ])
        refine wpAnyH_take (i := 23) (v := undef) rfl (by kernel_rfl) (by kernel_rfl) (by kernel_rfl) (fun _ _ _ h => h) (Or.inr ⟨by rfl, rfl⟩) (by assumption) ?_
        (try simp only [List.getElem_toArray, List.getElem_cons_succ, List.getElem_cons_zero, Act.put, List.setIfInBounds_toArray, List.set_cons_zero, List.set_cons_succ])
        refine wpAnyH_take (i := 24) (v := ?_) rfl (by kernel_rfl) (by kernel_rfl) (by kernel_rfl) (fun _ _ _ h => h) (Or.inl ⟨by rfl, ?_⟩) (by assumption) ?_
        rotate_left
        · (intro w hSw; (try dsimp only at hSw); go_simp; (try with_reducible rfl))
        (try simp only [List.getElem_toArray, List.getElem_cons_succ, List.getElem_cons_zero, Act.put, List.setIfInBounds_toArray, List.set_cons_zero, List.set_cons_succ])
        refine wpAnyH_take (i := 25) (v := ?_) rfl (by kernel_rfl) (by kernel_rfl) (by kernel_rfl) (fun _ _ _ h => h) (Or.inl ⟨by rfl, ?_⟩) (by assumption) ?_
        rotate_left
        · (intro w hSw; (try dsimp only at hSw); go_simp; (try with_reducible rfl))
        (try simp only [List.getElem_toArray, List.getElem_cons_succ, List.getElem_cons_zero, Act.put, List.setIfInBounds_toArray, List.set_cons_zero, List.set_cons_succ])
        refine wpAnyH_take (i := 26) (v := undef) rfl (by kernel_rfl) (by kernel_rfl) (by kernel_rfl) (fun _ _ _ h => h) (Or.inr ⟨by rfl, rfl⟩) (by assumption) ?_
        (try simp only [List.getElem_toArray, List.getElem_cons_succ, List.getElem_cons_zero, Act.put, List.setIfInBounds_toArray, List.set_cons_zero, List.set_cons_succ])
        refine wpAnyH_take (i := 27) (v := undef) rfl (by kernel_rfl) (by kernel_rfl) (by kernel_rfl) (fun _ _ _ h => h) (Or.inr ⟨by rfl, rfl⟩) (by assumption) ?_
        (try simp only [List.getElem_toArray, List.getElem_cons_succ, List.getElem_cons_zero, Act.put, List.setIfInBounds_toArray, List.set_cons_zero, List.set_cons_succ])
        refine wpAnyH_take (i := 28) (v := ?_) rfl (by kernel_rfl) (by kernel_rfl) (by kernel_rfl) (fun _ _ _ h => h) (Or.inl ⟨by rfl, ?_⟩) (by assumption) ?_
        rotate_left
        · (intro w hSw; (try dsimp only at hSw); go_simp; (try with_reducible rfl))
        (try simp only [List.getElem_toArray, List.getElem_cons_succ, List.getElem_cons_zero, Act.put, List.setIfInBounds_toArray, List.set_cons_zero, List.set_cons_succ])
        refine wpAnyH_take (i := 29) (v := ?_) rfl (by kernel_rfl) (by kernel_rfl) (by kernel_rfl) (fun _ _ _ h => h) (Or.inl ⟨by rfl, ?_⟩) (by assumption) ?_
        rotate_left
        · (intro w hSw; (try dsimp only at hSw); go_simp; (try with_reducible rfl))
        (try simp only [List.getElem_toArray, List.getElem_cons_succ, List.getElem_cons_zero, Act.put, List.setIfInBounds_toArray, List.set_cons_zero, List.set_cons_succ])
        refine wpAnyH_take (i := 30) (v := ?_) rfl (by kernel_rfl) (by kernel_rfl) (by kernel_rfl) (fun _ _ _ h => h) (Or.inl ⟨by rfl, ?_⟩) (by assumption) ?_
        rotate_left
        · (intro w hSw; (try dsimp only at hSw); go_simp; (try with_reducible rfl))
        (try simp only [List.getElem_toArray, List.getElem_cons_succ, List.getElem_cons_zero, Act.put, List.setIfInBounds_toArray, List.set_cons_zero, List.set_cons_succ])
        refine wpAnyH_take (i := 31) (v := ?_) rfl (by kernel_rfl) (by kernel_rfl) (by kernel_rfl) (fun _ _ _ h => h) (Or.inl ⟨by rfl, ?_⟩) (by assumption) ?_
        rotate_left
        · (intro w hSw; (try dsimp only at hSw); go_simp; (try with_reducible rfl))
        (try simp only [List.getElem_toArray, List.getElem_cons_succ, List.getElem_cons_zero, Act.put, List.setIfInBounds_toArray, List.set_cons_zero, List.set_cons_succ])
        refine wpAnyH_take (i := 32) (v := ?_) rfl (by kernel_rfl) (by kernel_rfl) (by kernel_rfl) (fun _ _ _ h => h) (Or.inl ⟨by rfl, ?_⟩) (by assumption) ?_
        rotate_left
        · (intro w hSw; (try dsimp only at hSw); go_simp; (try with_reducible rfl))
        (try simp only [List.getElem_toArray, List.getElem_cons_succ, List.getElem_cons_zero, Act.put, List.setIfInBounds_toArray, List.set_cons_zero, List.set_cons_succ])
        refine wpAnyH_take (i := 37) (v := ?_) rfl (by kernel_rfl) (by kernel_rfl) (by kernel_rfl) (fun _ _ _ h => h) (Or.inl ⟨by rfl, ?_⟩) (by assumption) ?_
        rotate_left
        · (intro w hSw; (try dsimp only at hSw); go_simp; (try with_reducible rfl))
        (try simp only [List.getElem_toArray, List.getElem_cons_succ, List.getElem_cons_zero, Act.put, List.setIfInBounds_toArray, List.set_cons_zero, List.set_cons_succ])
        refine wpAnyH_ready (rs := [33]) (by kernel_rfl) (by simp) (AllReadyH.cons (o := _) rfl (fun K hK => ?_) AllReadyH.nil)
        go_simp
        go_at_call 36
        refine (next_any 9 (by omega) (by omega) hT).mono ?_
        rintro e w15 ⟨r, rfl, hr, hT', hg⟩
        replace f0 := f0.tape hT hg
        replace f1 := f1.tape hT hg
        replace f2 := f2.tape hT hg
        replace f3 := f3.tape hT hg
        replace f4 := f4.tape hT hg
        replace f5 := f5.tape hT hg
        replace b0 := b0.other hg (by omega)
        replace b1 := b1.other hg (by omega)
        replace b2 := b2.other hg (by omega)
        replace hlt := Nat.lt_of_lt_of_le hlt hg.size
        replace H0 := H0.grown hg H0.size (by rintro k hk; injection hk with hk; omega)
        clear hT
        have hT := hT'
        clear hT' hg
        have wr := wrap1 hr
        clear hT hlt
        go_wp2_with fail
        refine hK.out _ _ ⟨b0.cell 0 _ rfl, b0.cell 1 _ rfl, b0.cell 2 _ rfl, b0.cell 3 _ rfl, b0.cell 4 _ rfl, b0.cell 5 _ rfl, b1.cell 0 _ rfl, b1.cell 1 _ rfl, b1.cell 2 _ rfl, b1.cell 3 _ rfl, b1.cell 4 _ rfl, b1.cell 5 _ rfl⟩ (fun hHeld => ?_)
        clear hK K
        (try simp only [List.getElem_toArray, List.getElem_cons_succ, List.getElem_cons_zero, Act.put, List.setIfInBounds_toArray, List.set_cons_zero, List.set_cons_succ])
        refine wpAnyH_take (i := 34) (v := ?_) rfl (by kernel_rfl) (by kernel_rfl) (by kernel_rfl) (fun _ _ _ h => h) (Or.inl ⟨by rfl, ?_⟩) (by assumption) ?_
        rotate_left
        · (intro w hSw; (try dsimp only at hSw); go_simp; (try with_reducible rfl))
        (try simp only [List.getElem_toArray, List.getElem_cons_succ, List.getElem_cons_zero, Act.put, List.setIfInBounds_toArray, List.set_cons_zero, List.set_cons_succ])
        refine wpAnyH_ready (rs := [35]) (by kernel_rfl) (by simp) (AllReadyH.cons (o := _) rfl (fun K hK => ?_) AllReadyH.nil)
        go_simp
        go_at_call 48
        refine (npart_v (d := 4) (1 + (r : Int)) (by omega) (by omega) (by omega)).mono ?_
        rintro e w16 ⟨s8, A8, n8, c8, D8, m8, e8, rfl, p8, hb⟩
        replace f0 := f0.below hb
        replace f1 := f1.below hb
        replace f2 := f2.below hb
        replace f3 := f3.below hb
        replace f4 := f4.below hb
        replace f5 := f5.below hb
        replace b0 := b0.below hb
        replace b1 := b1.below hb
        replace b2 := b2.below hb
        replace H0 := H0.trans (hb.mono H0.size)
        clear hb
        go_wp2_with fail
        refine hK.out _ _ ⟨b0.cell 0 _ rfl, b0.cell 1 _ rfl, b0.cell 2 _ rfl, b0.cell 3 _ rfl, b0.cell 4 _ rfl, b0.cell 5 _ rfl, b1.cell 0 _ rfl, b1.cell 1 _ rfl, b1.cell 2 _ rfl, b1.cell 3 _ rfl, b1.cell 4 _ rfl, b1.cell 5 _ rfl⟩ (fun hHeld => ?_)
        clear hK K
        (try simp only [List.getElem_toArray, List.getElem_cons_succ, List.getElem_cons_zero, Act.put, List.setIfInBounds_toArray, List.set_cons_zero, List.set_cons_succ])
        refine wpAnyH_ready (rs := [36]) (by kernel_rfl) (by simp) (AllReadyH.cons (o := _) rfl (fun K hK => ?_) AllReadyH.nil)
        go_simp
        go_at_call 30
        refine (toq_v p8 (by omega)).mono ?_
        rintro e w17 ⟨s9, A9, n9, c9, D9, m9, e9, rfl, p9, hb⟩
        replace f0 := f0.below hb
        replace f1 := f1.below hb
        replace f2 := f2.below hb
        replace f3 := f3.below hb
        replace f4 := f4.below hb
        replace f5 := f5.below hb
        replace p8 := p8.below hb
        replace b0 := b0.below hb
        replace b1 := b1.below hb
        replace b2 := b2.below hb
        replace H0 := H0.trans (hb.mono H0.size)
        clear hb
        clear p8
        go_wp2_with fail
        refine hK.out _ _ ⟨b0.cell 0 _ rfl, b0.cell 1 _ rfl, b0.cell 2 _ rfl, b0.cell 3 _ rfl, b0.cell 4 _ rfl, b0.cell 5 _ rfl, b1.cell 0 _ rfl, b1.cell 1 _ rfl, b1.cell 2 _ rfl, b1.cell 3 _ rfl, b1.cell 4 _ rfl, b1.cell 5 _ rfl⟩ (fun hHeld => ?_)
        clear hK K
        (try simp only [List.getElem_toArray, List.getElem_cons_succ, List.getElem_cons_zero, Act.put, List.setIfInBounds_toArray, List.set_cons_zero, List.set_cons_succ])
        refine wpAnyH_ready (rs := [38]) (by kernel_rfl) (by simp) (AllReadyH.cons (o := _) rfl (fun K hK => ?_) AllReadyH.nil)
        go_simp
        go_at_call 27
        refine (pscale_v p9.rq f0.rq f1.rq (by omega) (by omega)).mono ?_
        rintro e w18 ⟨s10, A10, n10, c10, D10, m10, e10, s11, A11, n11, c11, D11, m11, e11, rfl, p10, p11, hb⟩
        replace f0 := f0.below hb
        replace f1 := f1.below hb
        replace f2 := f2.below hb
        replace f3 := f3.below hb
        replace f4 := f4.below hb
        replace f5 := f5.below hb
        replace p9 := p9.below hb
        replace b0 := b0.below hb
        replace b1 := b1.below hb
        replace b2 := b2.below hb
        replace H0 := H0.trans (hb.mono H0.size)
        clear hb
        clear p9
        go_wp2_with fail
        refine hK.out _ _ ⟨b0.cell 0 _ rfl, b0.cell 1 _ rfl, b0.cell 2 _ rfl, b0.cell 3 _ rfl, b0.cell 4 _ rfl, b0.cell 5 _ rfl, b1.cell 0 _ rfl, b1.cell 1 _ rfl, b1.cell 2 _ rfl, b1.cell 3 _ rfl, b1.cell 4 _ rfl, b1.cell 5 _ rfl⟩ (fun hHeld => ?_)
        clear hK K
        (try simp only [List.getElem_toArray, List.getElem_cons_succ, List.getElem_cons_zero, Act.put, List.setIfInBounds_toArray, List.set_cons_zero, List.set_cons_succ])
        refine wpAnyH_ready (rs := [39]) (by kernel_rfl) (by simp) (AllReadyH.cons (o := _) rfl (fun K hK => ?_) AllReadyH.nil)
        go_simp
        go_at_call 41
        refine (pangle_v f0.rq f1.rq p10.rq p11.rq (by omega) (by omega) (ang_scale _ _ _ (part_pos r))).mono ?_
        rintro e w19 ⟨rfl, hb⟩
        replace f0 := f0.below hb
        replace f1 := f1.below hb
        replace f2 := f2.below hb
        replace f3 := f3.below hb
        replace f4 := f4.below hb
        replace f5 := f5.below hb
        replace p10 := p10.below hb
        replace p11 := p11.below hb
        replace b0 := b0.below hb
        replace b1 := b1.below hb
        replace b2 := b2.below hb
        replace H0 := H0.trans (hb.mono H0.size)
        clear hb
        clear p10
        clear p11
        go_wp2_with fail
        refine hK.out _ _ ⟨b0.cell 0 _ rfl, b0.cell 1 _ rfl, b0.cell 2 _ rfl, b0.cell 3 _ rfl, b0.cell 4 _ rfl, b0.cell 5 _ rfl, b1.cell 0 _ rfl, b1.cell 1 _ rfl, b1.cell 2 _ rfl, b1.cell 3 _ rfl, b1.cell 4 _ rfl, b1.cell 5 _ rfl⟩ (fun hHeld => ?_)
        clear hK K
        (try simp only [List.getElem_toArray, List.getElem_cons_succ, List.getElem_cons_zero, Act.put, List.setIfInBounds_toArray, List.set_cons_zero, List.set_cons_succ])
        refine wpAnyH_take (i := 40) (v := ?_) rfl (by kernel_rfl) (by kernel_rfl) (by kernel_rfl) (fun _ _ _ h => h) (Or.inl ⟨by rfl, ?_⟩) (by assumption) ?_
        rotate_left
        · (intro w hSw; (try dsimp only at hSw); go_simp; (try with_reducible rfl))
        (try simp only [List.getElem_toArray, List.getElem_cons_succ, List.getElem_cons_zero, Act.put, List.setIfInBounds_toArray, List.set_cons_zero, List.set_cons_succ])
        refine wpAnyH_take (i := 41) (v := ?_) rfl (by kernel_rfl) (by kernel_rfl) (by kernel_rfl) (fun _ _ _ h => h) (Or.inl ⟨by rfl, ?_⟩) (by assumption) ?_
        rotate_left
        · (intro w hSw; (try dsimp only at hSw); go_simp; (try with_reducible rfl))
        (try simp only [List.getElem_toArray, List.getElem_cons_succ, List.getElem_cons_zero, Act.put, List.setIfInBounds_toArray, List.set_cons_zero, List.set_cons_succ])
        refine wpAnyH_done (by kernel_rfl) ?_ _
        refine NoPanic.normal ?_
        go_wp2_with fail
        go_meet
        exact ⟨rfl, f0, f1, f2, f3, b0, b1, H0⟩
  case rest =>
    clear f0 f1 f2 f3 f4 f5 b0 b1 b2 H0 hT hlt lt0 lt1 lt2 Hky Hkz Rky Rkz Hyx
    obtain ⟨rfl, f0, f1, f2, f3, b0, b1, H0⟩ := hcut
    obtain ⟨kp, hkp⟩ : ∃ k, cmpQ (mkRat ((x0 : Rat).num * ((y0 : Rat).den : Int)) (Nat.gcd ((x0 : Rat).num * ((y0 : Rat).den : Int)).natAbs ((y0 : Rat).num * ((x0 : Rat).den : Int)).natAbs)) (mkRat ((y0 : Rat).num * ((x0 : Rat).den : Int)) (Nat.gcd ((x0 : Rat).num * ((y0 : Rat).den : Int)).natAbs ((y0 : Rat).num * ((x0 : Rat).den : Int)).natAbs)) (mkRat ((x1 : Rat).num * ((y1 : Rat).den : Int)) (Nat.gcd ((x1 : Rat).num * ((y1 : Rat).den : Int)).natAbs ((y1 : Rat).num * ((x1 : Rat).den : Int)).natAbs)) (mkRat ((y1 : Rat).num * ((x1 : Rat).den : Int)) (Nat.gcd ((x1 : Rat).num * ((y1 : Rat).den : Int)).natAbs ((y1 : Rat).num * ((x1 : Rat).den : Int)).natAbs)) = k := ⟨_, rfl⟩
    have hpe := prim_eq x0 y0 x1 y1 HV.out.1.1 HV.out.2.1 HV.out.1.2 HV.out.2.2
    have HP := Lib.hid hkp
    have HN0 := Lib.hid HV.out.1.2
    rw [hkp, ← angQ_int, Hkx.out] at hpe
    clear hkp HV
    go_wp2_with fail
    have hD := drawn_below wc
    replace f0 := f0.below hD
    replace f1 := f1.below hD
    replace f2 := f2.below hD
    replace f3 := f3.below hD
    replace b0 := b0.below hD
    replace b1 := b1.below hD
    replace H0 := H0.trans (hD.mono H0.size)
    clear hD
    refine wp_region_noPanic ?_
    refine wp_region_held_drew (S := (fun V => V.cell? ⟨w7.heap.size, 0, none⟩ = some (.bool s0) ∧ V.cell? ⟨w7.heap.size, 1, none⟩ = some (.slice A0 n0 c0) ∧ V.cell? ⟨w7.heap.size, 2, none⟩ = some (.slice D0 m0 e0) ∧ V.cell? ⟨w7.heap.size, 3, none⟩ = some (.bool s1) ∧ V.cell? ⟨w7.heap.size, 4, none⟩ = some (.slice A1 n1 c1) ∧ V.cell? ⟨w7.heap.size, 5, none⟩ = some (.slice D1 m1 e1) ∧ V.cell? ⟨w7.heap.size + 1, 0, none⟩ = some (.bool s2) ∧ V.cell? ⟨w7.heap.size + 1, 1, none⟩ = some (.slice A2 n2 c2) ∧ V.cell? ⟨w7.heap.size + 1, 2, none⟩ = some (.slice D2 m2 e2) ∧ V.cell? ⟨w7.heap.size + 1, 3, none⟩ = some (.bool s3) ∧ V.cell? ⟨w7.heap.size + 1, 4, none⟩ = some (.slice A3 n3 c3) ∧ V.cell? ⟨w7.heap.size + 1, 5, none⟩ = some (.slice D3 m3 e3))) (by kernel_rfl) ⟨b0.cell 0 _ rfl, b0.cell 1 _ rfl, b0.cell 2 _ rfl, b0.cell 3 _ rfl, b0.cell 4 _ rfl, b0.cell 5 _ rfl, b1.cell 0 _ rfl, b1.cell 1 _ rfl, b1.cell 2 _ rfl, b1.cell 3 _ rfl, b1.cell 4 _ rfl, b1.cell 5 _ rfl⟩ (fun hHeld => ?_)
    generalize wc.drew = v300 at H0 hHeld f0 f1 f2 f3 b0 b1 ⊢
    refine wpAnyH_take (i := 0) (v := ?_) rfl (by kernel_rfl) (by kernel_rfl) (by kernel_rfl) (fun _ _ _ h => h) (Or.inl ⟨by rfl, ?_⟩) (by assumption) ?_
    rotate_left
    · (intro w hSw; (try dsimp only at hSw); go_simp; (try with_reducible rfl))
    (try simp only [List.getElem_toArray, List.getElem_cons_zero, Act.put, List.setIfInBounds_toArray, List.set_cons_zero, List.set_cons_succ])
    refine wpAnyH_take (i := 2) (v := ?_) rfl (by kernel_rfl) (by kernel_rfl) (by kernel_rfl) (fun _ _ _ h => h) (Or.inl ⟨by rfl, ?_⟩) (by assumption) ?_
    rotate_left
    · (intro w hSw; (try dsimp only at hSw); go_simp; (try with_reducible rfl))
    (try simp only [List.getElem_toArray, List.getElem_cons_succ, List.getElem_cons_zero, Act.put, List.setIfInBounds_toArray, List.set_cons_zero, List.set_cons_succ])
    refine wpAnyH_take (i := 4) (v := ?_) rfl (by kernel_rfl) (by kernel_rfl) (by kernel_rfl) (fun _ _ _ h => h) (Or.inl ⟨by rfl, ?_⟩) (by assumption) ?_
    rotate_left
    · (intro w hSw; (try dsimp only at hSw); go_simp; (try with_reducible rfl))
    (try simp only [List.getElem_toArray, List.getElem_cons_succ, List.getElem_cons_zero, Act.put, List.setIfInBounds_toArray, List.set_cons_zero, List.set_cons_succ])
    refine wpAnyH_take (i := 1) (v := ?_) rfl (by kernel_rfl) (by kernel_rfl) (by kernel_rfl) (fun _ _ _ h => h) (Or.inl ⟨by rfl, ?_⟩) (by assumption) ?_
    rotate_left
    · (intro w hSw; (try dsimp only at hSw); go_simp; (try with_reducible rfl))
    (try simp only [List.getElem_toArray, List.getElem_cons_succ, List.getElem_cons_zero, Act.put, List.setIfInBounds_toArray, List.set_cons_zero, List.set_cons_succ])
    refine wpAnyH_ready (rs := [3]) (by kernel_rfl) (by simp) (AllReadyH.cons (o := _) rfl (fun K hK => ?_) AllReadyH.nil)
    go_simp
    go_at_call 45
    refine (pprim_v f0.rq f1.rq (by omega)).mono ?_
    rintro e w301 ⟨s10, A10, n10, c10, D10, m10, e10, s11, A11, n11, c11, D11, m11, e11, rfl, p0, p1, hb⟩
    replace f0 := f0.below hb
    replace f1 := f1.below hb
    replace f2 := f2.below hb
    replace f3 := f3.below hb
    replace b0 := b0.below hb
    replace b1 := b1.below hb
    replace H0 := H0.trans (hb.mono H0.size)
    clear hb
    go_wp2_with fail
    refine hK.out _ _ ⟨b0.cell 0 _ rfl, b0.cell 1 _ rfl, b0.cell 2 _ rfl, b0.cell 3 _ rfl, b0.cell 4 _ rfl, b0.cell 5 _ rfl, b1.cell 0 _ rfl, b1.cell 1 _ rfl, b1.cell 2 _ rfl, b1.cell 3 _ rfl, b1.cell 4 _ rfl, b1.cell 5 _ rfl⟩ (fun hHeld => ?_)
    clear hK K
    (try simp only [List.getElem_toArray, List.getElem_cons_succ, List.getElem_cons_zero, Act.put, List.setIfInBounds_toArray, List.set_cons_zero, List.set_cons_succ])
    refine wpAnyH_ready (rs := [5]) (by kernel_rfl) (by simp) (AllReadyH.cons (o := _) rfl (fun K hK => ?_) AllReadyH.nil)
    go_simp
    go_at_call 45
    refine (pprim_v f2.rq f3.rq (by omega)).mono ?_
    rintro e w302 ⟨s12, A12, n12, c12, D12, m12, e12, s13, A13, n13, c13, D13, m13, e13, rfl, p2, p3, hb⟩
    replace f0 := f0.below hb
    replace f1 := f1.below hb
    replace f2 := f2.below hb
    replace f3 := f3.below hb
    replace p0 := p0.below hb
    replace p1 := p1.below hb
    replace b0 := b0.below hb
    replace b1 := b1.below hb
    replace H0 := H0.trans (hb.mono H0.size)
    clear hb
    go_wp2_with fail
    refine hK.out _ _ ⟨b0.cell 0 _ rfl, b0.cell 1 _ rfl, b0.cell 2 _ rfl, b0.cell 3 _ rfl, b0.cell 4 _ rfl, b0.cell 5 _ rfl, b1.cell 0 _ rfl, b1.cell 1 _ rfl, b1.cell 2 _ rfl, b1.cell 3 _ rfl, b1.cell 4 _ rfl, b1.cell 5 _ rfl⟩ (fun hHeld => ?_)
    clear hK K
    (try simp only [List.getElem_toArray, List.getElem_cons_succ, List.getElem_cons_zero, Act.put, List.setIfInBounds_toArray, List.set_cons_zero, List.set_cons_succ])
    refine wpAnyH_ready (rs := [6]) (by kernel_rfl) (by simp) (AllReadyH.cons (o := _) rfl (fun K hK => ?_) AllReadyH.nil)
    go_simp
    go_at_call 16
    refine (psame_v p0.rq p1.rq p2.rq p3.rq (by omega) (by omega) HP.out).mono ?_
    rintro e w303 ⟨rfl, hb⟩
    replace f0 := f0.below hb
    replace f1 := f1.below hb
    replace f2 := f2.below hb
    replace f3 := f3.below hb
    replace p0 := p0.below hb
    replace p1 := p1.below hb
    replace p2 := p2.below hb
    replace p3 := p3.below hb
    replace b0 := b0.below hb
    replace b1 := b1.below hb
    replace H0 := H0.trans (hb.mono H0.size)
    clear hb
    clear p0
    clear p1
    clear p2
    clear p3
    go_wp2_with fail
    refine hK.out _ _ ⟨b0.cell 0 _ rfl, b0.cell 1 _ rfl, b0.cell 2 _ rfl, b0.cell 3 _ rfl, b0.cell 4 _ rfl, b0.cell 5 _ rfl, b1.cell 0 _ rfl, b1.cell 1 _ rfl, b1.cell 2 _ rfl, b1.cell 3 _ rfl, b1.cell 4 _ rfl, b1.cell 5 _ rfl⟩ (fun hHeld => ?_)
    clear hK K
    (try simp only [List.getElem_toArray, List.getElem_cons_succ, List.getElem_cons_zero, Act.put, List.setIfInBounds_toArray, List.set_cons_zero, List.set_cons_succ])
    refine wpAnyH_take (i := 7) (v := ?_) rfl (by kernel_rfl) (by kernel_rfl) (by kernel_rfl) (fun _ _ _ h => h) (Or.inl ⟨by rfl, ?_⟩) (by assumption) ?_
    rotate_left
    · (intro w hSw; (try dsimp only at hSw); go_simp; (try with_reducible rfl))
    (try simp only [List.getElem_toArray, List.getElem_cons_succ, List.getElem_cons_zero, Act.put, List.setIfInBounds_toArray, List.set_cons_zero, List.set_cons_succ])
    refine wpAnyH_done (by kernel_rfl) ?_ _
    refine NoPanic.normal ?_
    go_wp2_with fail
    clear hpe HP
    go_cut [10, 11] from 12 (fun s_10 s_11 wx => ∃ g g' s8 A8 n8 c8 D8 m8 e8 s9 A9 n9 c9 D9 m9 e9 s10 A10 n10 c10 D10 m10 e10 s11 A11 n11 c11 D11 m11 e11, s_10 = .pointer (some ⟨g, 0, none⟩) ∧ s_11 = .pointer (some ⟨g', 0, none⟩) ∧ PQ wx s8 (.slice A8 n8 c8) (.slice D8 m8 e8) (x0 : Rat) 2 ∧ PQ wx s9 (.slice A9 n9 c9) (.slice D9 m9 e9) (y0 : Rat) 2 ∧ PQ wx s10 (.slice A10 n10 c10) (.slice D10 m10 e10) (x1 : Rat) 2 ∧ PQ wx s11 (.slice A11 n11 c11) (.slice D11 m11 e11) (y1 : Rat) 2 ∧ Box wx g #[.bool s8, .slice A8 n8 c8, .slice D8 m8 e8, .bool s9, .slice A9 n9 c9, .slice D9 m9 e9] 38 ∧ Box wx g' #[.bool s10, .slice A10 n10 c10, .slice D10 m10 e10, .bool s11, .slice A11 n11 c11, .slice D11 m11 e11] 38 ∧ Below w303.heap.size w303 wx)
    case first =>
      have lcb0_304 := b0.lt
      have lcb1_304 := b1.lt
      have hG := drawn_below w303
      refine wp_region_noPanic ?_
      refine wp_region_anyd (by kernel_rfl) ?_
      generalize w303.drew = v304 at hG ⊢
      refine wpAny_of_F (S := (fun V => V.cell? ⟨w7.heap.size, 0, none⟩ = some (.bool s0) ∧ V.cell? ⟨w7.heap.size, 1, none⟩ = some (.slice A0 n0 c0) ∧ V.cell? ⟨w7.heap.size, 2, none⟩ = some (.slice D0 m0 e0) ∧ V.cell? ⟨w7.heap.size, 3, none⟩ = some (.bool s1) ∧ V.cell? ⟨w7.heap.size, 4, none⟩ = some (.slice A1 n1 c1) ∧ V.cell? ⟨w7.heap.size, 5, none⟩ = some (.slice D1 m1 e1) ∧ V.cell? ⟨w7.heap.size + 1, 0, none⟩ = some (.bool s2) ∧ V.cell? ⟨w7.heap.size + 1, 1, none⟩ = some (.slice A2 n2 c2) ∧ V.cell? ⟨w7.heap.size + 1, 2, none⟩ = some (.slice D2 m2 e2) ∧ V.cell? ⟨w7.heap.size + 1, 3, none⟩ = some (.bool s3) ∧ V.cell? ⟨w7.heap.size + 1, 4, none⟩ = some (.slice A3 n3 c3) ∧ V.cell? ⟨w7.heap.size + 1, 5, none⟩ = some (.slice D3 m3 e3))) (F := (fun j => j == 6 || j == 7)) _ _ _ _ ?_
      refine wpAnyF_take (i := 0) (v := ?_) (fun j => j == 1 || j == 3 || j == 6 || j == 7) rfl (by kernel_rfl) (by kernel_rfl) (by kernel_rfl) (by kernel_rfl) (fun j hj => by have h6 : 8 ≤ j := hj; simp; omega) (fun _ _ _ h => h) (Or.inl ⟨by rfl, ?_⟩) ⟨(b0.below hG).cell 0 _ rfl, (b0.below hG).cell 1 _ rfl, (b0.below hG).cell 2 _ rfl, (b0.below hG).cell 3 _ rfl, (b0.below hG).cell 4 _ rfl, (b0.below hG).cell 5 _ rfl, (b1.below hG).cell 0 _ rfl, (b1.below hG).cell 1 _ rfl, (b1.below hG).cell 2 _ rfl, (b1.below hG).cell 3 _ rfl, (b1.below hG).cell 4 _ rfl, (b1.below hG).cell 5 _ rfl⟩ ?_
      rotate_left
      · (intro w hSw; (try dsimp only at hSw); go_simp; (try with_reducible rfl))
      (try simp only [List.getElem_toArray, List.getElem_cons_zero, Act.put, List.setIfInBounds_toArray, List.set_cons_zero, List.set_cons_succ])
      refine wpAnyF_take (i := 2) (v := ?_) (fun j => j == 3 || j == 6 || j == 7) rfl (by kernel_rfl) (by kernel_rfl) (by kernel_rfl) (by kernel_rfl) (fun j hj => by have h6 : 8 ≤ j := hj; simp; omega) (fun _ _ _ h => h) (Or.inl ⟨by rfl, ?_⟩) ⟨(b0.below hG).cell 0 _ rfl, (b0.below hG).cell 1 _ rfl, (b0.below hG).cell 2 _ rfl, (b0.below hG).cell 3 _ rfl, (b0.below hG).cell 4 _ rfl, (b0.below hG).cell 5 _ rfl, (b1.below hG).cell 0 _ rfl, (b1.below hG).cell 1 _ rfl, (b1.below hG).cell 2 _ rfl, (b1.below hG).cell 3 _ rfl, (b1.below hG).cell 4 _ rfl, (b1.below hG).cell 5 _ rfl⟩ ?_
      rotate_left
      · (intro w hSw; (try dsimp only at hSw); go_simp; (try with_reducible rfl))
      (try simp only [List.getElem_toArray, List.getElem_cons_succ, List.getElem_cons_zero, Act.put, List.setIfInBounds_toArray, List.set_cons_zero, List.set_cons_succ])
      refine wpAnyF_name (n' := 6) (l' := #[true, false, true, false, false, false, false, false]) (by kernel_rfl) (by kernel_rfl) (fun A0 hA => ?_)
      refine wpAnyF_phase (rs := [1, 3, 4, 5]) (full := #[true, true, true, true, true, true, false, false]) (states := [#[true, false, true, false, false, false, false, false], #[true, true, true, false, false, false, false, false], #[true, false, true, false, true, false, false, false], #[true, false, true, false, false, true, false, false], #[true, true, true, false, false, true, false, false], #[true, false, true, false, true, true, false, false], #[true, true, true, false, true, true, false, false], #[true, true, true, true, true, true, false, false], #[true, true, true, true, false, true, false, false], #[true, true, true, false, true, false, false, false], #[true, true, true, true, true, false, false, false], #[true, true, true, true, false, false, false, false]]) (k := 2) (I := fun listed a w => ∃ (y1_ y3_ y4_ y5_ : Value), a = ((((A0.put (some 83) y1_).put (some 85) y3_).put (some 10) y4_).put (some 11) y5_) ∧ Below w303.heap.size w303 w ∧ (listed.getD 1 false = true → ∃ s8 A8 n8 c8 D8 m8 e8 s9 A9 n9 c9 D9 m9 e9, y1_ = .agg #[.bool s8, .slice A8 n8 c8, .slice D8 m8 e8, .bool s9, .slice A9 n9 c9, .slice D9 m9 e9] ∧ PQ w s8 (.slice A8 n8 c8) (.slice D8 m8 e8) (x0 : Rat) 2 ∧ PQ w s9 (.slice A9 n9 c9) (.slice D9 m9 e9) (y0 : Rat) 2) ∧ (listed.getD 3 false = true → ∃ s10 A10 n10 c10 D10 m10 e10 s11 A11 n11 c11 D11 m11 e11, y3_ = .agg #[.bool s10, .slice A10 n10 c10, .slice D10 m10 e10, .bool s11, .slice A11 n11 c11, .slice D11 m11 e11] ∧ PQ w s10 (.slice A10 n10 c10) (.slice D10 m10 e10) (x1 : Rat) 2 ∧ PQ w s11 (.slice A11 n11 c11) (.slice D11 m11 e11) (y1 : Rat) 2) ∧ (listed.getD 4 false = true → ∃ g0_, y4_ = .pointer (some ⟨g0_, 0, none⟩) ∧ Box w g0_ #[.bool false, .slice none 0 0, .slice none 0 0, .bool false, .slice none 0 0, .slice none 0 0] 38 ∧ w303.heap.size ≤ g0_) ∧ (listed.getD 5 false = true → ∃ g1_, y5_ = .pointer (some ⟨g1_, 0, none⟩) ∧ Box w g1_ #[.bool false, .slice none 0 0, .slice none 0 0, .bool false, .slice none 0 0, .slice none 0 0] 38 ∧ w303.heap.size ≤ g1_) ∧ (listed.getD 4 false = true → listed.getD 5 false = true → y4_ ≠ y5_)) (by kernel_rfl) (by kernel_rfl) ?_ ?_ _ _ _ _ (by kernel_rfl) (by kernel_rfl) ⟨A0.tmps.getD 83 undef, A0.tmps.getD 85 undef, A0.tmps.getD 10 undef, A0.tmps.getD 11 undef, by subst hA; kernel_rfl, hG, fun h => (by cases h), fun h => (by cases h), fun h => (by cases h), fun h => (by cases h), fun h => (by cases h)⟩
      · refine (AllStepsF.cons (i := 1) (o := _) rfl rfl ?_ (AllStepsF.cons (i := 3) (o := _) rfl rfl ?_ (AllStepsF.cons (i := 4) (o := _) rfl rfl ?_ (AllStepsF.cons (i := 5) (o := _) rfl rfl ?_ AllStepsF.nil))))
        · rintro listed a wx ⟨y1_, y3_, y4_, y5_, rfl, hG, H1_, H3_, H4_, H5_, D4_5⟩ hi K hK
          subst hA
          (try simp only [Act.put, List.setIfInBounds_toArray, List.set_cons_zero, List.set_cons_succ])
          go_simp
          go_at_call 11
          refine (gpt_v (f0.rq.below hG) (f1.rq.below hG) (by omega)).mono ?_
          rintro e X ⟨s8, A8, n8, c8, D8, m8, e8, s9, A9, n9, c9, D9, m9, e9, rfl, h0, h1, hb9⟩
          go_wp2_with fail
          have hG9 := hG.trans (hb9.mono hG.size)
          refine hK.out _ _ ⟨(b0.below hG9).cell 0 _ rfl, (b0.below hG9).cell 1 _ rfl, (b0.below hG9).cell 2 _ rfl, (b0.below hG9).cell 3 _ rfl, (b0.below hG9).cell 4 _ rfl, (b0.below hG9).cell 5 _ rfl, (b1.below hG9).cell 0 _ rfl, (b1.below hG9).cell 1 _ rfl, (b1.below hG9).cell 2 _ rfl, (b1.below hG9).cell 3 _ rfl, (b1.below hG9).cell 4 _ rfl, (b1.below hG9).cell 5 _ rfl⟩ ?_
          clear hK K
          exact ⟨_, y3_, y4_, y5_, by kernel_rfl, hG9, fun _ => ⟨s8, A8, n8, c8, D8, m8, e8, s9, A9, n9, c9, D9, m9, e9, rfl, h0, h1⟩, fun h => by obtain ⟨s10, A10, n10, c10, D10, m10, e10, s11, A11, n11, c11, D11, m11, e11, e_, h2', h3'⟩ := H3_ (set_dep (by decide) h); exact ⟨s10, A10, n10, c10, D10, m10, e10, s11, A11, n11, c11, D11, m11, e11, e_, h2'.below hb9, h3'.below hb9⟩, fun h => by obtain ⟨g0_, e_, bx0', hl0'⟩ := H4_ (set_dep (by decide) h); exact ⟨g0_, e_, bx0'.below hb9, hl0'⟩, fun h => by obtain ⟨g1_, e_, bx1', hl1'⟩ := H5_ (set_dep (by decide) h); exact ⟨g1_, e_, bx1'.below hb9, hl1'⟩, fun h h9 => D4_5 (set_dep (by decide) h) (set_dep (by decide) h9)⟩
        · rintro listed a wx ⟨y1_, y3_, y4_, y5_, rfl, hG, H1_, H3_, H4_, H5_, D4_5⟩ hi K hK
          subst hA
          (try simp only [Act.put, List.setIfInBounds_toArray, List.set_cons_zero, List.set_cons_succ])
          go_simp
          go_at_call 11
          refine (gpt_v (f2.rq.below hG) (f3.rq.below hG) (by omega)).mono ?_
          rintro e X ⟨s10, A10, n10, c10, D10, m10, e10, s11, A11, n11, c11, D11, m11, e11, rfl, h2, h3, hb9⟩
          go_wp2_with fail
          have hG9 := hG.trans (hb9.mono hG.size)
          refine hK.out _ _ ⟨(b0.below hG9).cell 0 _ rfl, (b0.below hG9).cell 1 _ rfl, (b0.below hG9).cell 2 _ rfl, (b0.below hG9).cell 3 _ rfl, (b0.below hG9).cell 4 _ rfl, (b0.below hG9).cell 5 _ rfl, (b1.below hG9).cell 0 _ rfl, (b1.below hG9).cell 1 _ rfl, (b1.below hG9).cell 2 _ rfl, (b1.below hG9).cell 3 _ rfl, (b1.below hG9).cell 4 _ rfl, (b1.below hG9).cell 5 _ rfl⟩ ?_
          clear hK K
          exact ⟨y1_, _, y4_, y5_, by kernel_rfl, hG9, fun h => by obtain ⟨s8, A8, n8, c8, D8, m8, e8, s9, A9, n9, c9, D9, m9, e9, e_, h0', h1'⟩ := H1_ (set_dep (by decide) h); exact ⟨s8, A8, n8, c8, D8, m8, e8, s9, A9, n9, c9, D9, m9, e9, e_, h0'.below hb9, h1'.below hb9⟩, fun _ => ⟨s10, A10, n10, c10, D10, m10, e10, s11, A11, n11, c11, D11, m11, e11, rfl, h2, h3⟩, fun h => by obtain ⟨g0_, e_, bx0', hl0'⟩ := H4_ (set_dep (by decide) h); exact ⟨g0_, e_, bx0'.below hb9, hl0'⟩, fun h => by obtain ⟨g1_, e_, bx1', hl1'⟩ := H5_ (set_dep (by decide) h); exact ⟨g1_, e_, bx1'.below hb9, hl1'⟩, fun h h9 => D4_5 (set_dep (by decide) h) (set_dep (by decide) h9)⟩
        · rintro listed a wx ⟨y1_, y3_, y4_, y5_, rfl, hG, H1_, H3_, H4_, H5_, D4_5⟩ hi K hK
          subst hA
          (try simp only [Act.put, List.setIfInBounds_toArray, List.set_cons_zero, List.set_cons_succ])
          go_simp
          obtain ⟨X, hV, bx0, hb9, sz9⟩ := boxes1 wx #[.bool false, .slice none 0 0, .slice none 0 0, .bool false, .slice none 0 0, .slice none 0 0] 38
          rw [hV]
          clear hV
          have hl0 : w303.heap.size ≤ wx.heap.size := hG.size
          have hG9 := hG.trans (hb9.mono hG.size)
          refine hK.out _ _ ⟨(b0.below hG9).cell 0 _ rfl, (b0.below hG9).cell 1 _ rfl, (b0.below hG9).cell 2 _ rfl, (b0.below hG9).cell 3 _ rfl, (b0.below hG9).cell 4 _ rfl, (b0.below hG9).cell 5 _ rfl, (b1.below hG9).cell 0 _ rfl, (b1.below hG9).cell 1 _ rfl, (b1.below hG9).cell 2 _ rfl, (b1.below hG9).cell 3 _ rfl, (b1.below hG9).cell 4 _ rfl, (b1.below hG9).cell 5 _ rfl⟩ ?_
          clear hK K
          exact ⟨y1_, y3_, _, y5_, by kernel_rfl, hG9, fun h => by obtain ⟨s8, A8, n8, c8, D8, m8, e8, s9, A9, n9, c9, D9, m9, e9, e_, h0', h1'⟩ := H1_ (set_dep (by decide) h); exact ⟨s8, A8, n8, c8, D8, m8, e8, s9, A9, n9, c9, D9, m9, e9, e_, h0'.below hb9, h1'.below hb9⟩, fun h => by obtain ⟨s10, A10, n10, c10, D10, m10, e10, s11, A11, n11, c11, D11, m11, e11, e_, h2', h3'⟩ := H3_ (set_dep (by decide) h); exact ⟨s10, A10, n10, c10, D10, m10, e10, s11, A11, n11, c11, D11, m11, e11, e_, h2'.below hb9, h3'.below hb9⟩, fun _ => ⟨_, rfl, bx0, hl0⟩, fun h => by obtain ⟨g1_, e_, bx1', hl1'⟩ := H5_ (set_dep (by decide) h); exact ⟨g1_, e_, bx1'.below hb9, hl1'⟩, fun _ h => by obtain ⟨g1_, e_, bx_, _⟩ := H5_ (set_dep (by decide) h); rw [e_]; have lx_ := bx_.lt; intro heq; injection heq with heq; injection heq with heq; injection heq with heq; omega⟩
        · rintro listed a wx ⟨y1_, y3_, y4_, y5_, rfl, hG, H1_, H3_, H4_, H5_, D4_5⟩ hi K hK
          subst hA
          (try simp only [Act.put, List.setIfInBounds_toArray, List.set_cons_zero, List.set_cons_succ])
          go_simp
          obtain ⟨X, hV, bx1, hb9, sz9⟩ := boxes1 wx #[.bool false, .slice none 0 0, .slice none 0 0, .bool false, .slice none 0 0, .slice none 0 0] 38
          rw [hV]
          clear hV
          have hl1 : w303.heap.size ≤ wx.heap.size := hG.size
          have hG9 := hG.trans (hb9.mono hG.size)
          refine hK.out _ _ ⟨(b0.below hG9).cell 0 _ rfl, (b0.below hG9).cell 1 _ rfl, (b0.below hG9).cell 2 _ rfl, (b0.below hG9).cell 3 _ rfl, (b0.below hG9).cell 4 _ rfl, (b0.below hG9).cell 5 _ rfl, (b1.below hG9).cell 0 _ rfl, (b1.below hG9).cell 1 _ rfl, (b1.below hG9).cell 2 _ rfl, (b1.below hG9).cell 3 _ rfl, (b1.below hG9).cell 4 _ rfl, (b1.below hG9).cell 5 _ rfl⟩ ?_
          clear hK K
          exact ⟨y1_, y3_, y4_, _, by kernel_rfl, hG9, fun h => by obtain ⟨s8, A8, n8, c8, D8, m8, e8, s9, A9, n9, c9, D9, m9, e9, e_, h0', h1'⟩ := H1_ (set_dep (by decide) h); exact ⟨s8, A8, n8, c8, D8, m8, e8, s9, A9, n9, c9, D9, m9, e9, e_, h0'.below hb9, h1'.below hb9⟩, fun h => by obtain ⟨s10, A10, n10, c10, D10, m10, e10, s11, A11, n11, c11, D11, m11, e11, e_, h2', h3'⟩ := H3_ (set_dep (by decide) h); exact ⟨s10, A10, n10, c10, D10, m10, e10, s11, A11, n11, c11, D11, m11, e11, e_, h2'.below hb9, h3'.below hb9⟩, fun h => by obtain ⟨g0_, e_, bx0', hl0'⟩ := H4_ (set_dep (by decide) h); exact ⟨g0_, e_, bx0'.below hb9, hl0'⟩, fun _ => ⟨_, rfl, bx1, hl1⟩, fun h _ => by obtain ⟨g0_, e_, bx_, _⟩ := H4_ (set_dep (by decide) h); rw [e_]; have lx_ := bx_.lt; intro heq; injection heq with heq; injection heq with heq; injection heq with heq; omega⟩
      · rintro a wf ⟨y1_, y3_, y4_, y5_, rfl, hG, H1_, H3_, H4_, H5_, D4_5⟩
        have d4_5 := D4_5 rfl rfl
        obtain ⟨s8, A8, n8, c8, D8, m8, e8, s9, A9, n9, c9, D9, m9, e9, rfl, h0, h1⟩ := H1_ rfl
        obtain ⟨s10, A10, n10, c10, D10, m10, e10, s11, A11, n11, c11, D11, m11, e11, rfl, h2, h3⟩ := H3_ rfl
        obtain ⟨g0_, rfl, bx0, hl0⟩ := H4_ rfl
        obtain ⟨g1_, rfl, bx1, hl1⟩ := H5_ rfl
        clear D4_5
        subst hA
        (try simp only [Act.put, List.setIfInBounds_toArray, List.set_cons_zero, List.set_cons_succ])
        have hne : g0_ ≠ g1_ := fun h => d4_5 (by rw [h])
        clear d4_5
        have H0 := hG
        have cbx00 := bx0.cell 0 _ rfl
        have ybx00 := bx0.frozen 0
        have cbx01 := bx0.cell 1 _ rfl
        have ybx01 := bx0.frozen 1
        have cbx02 := bx0.cell 2 _ rfl
        have ybx02 := bx0.frozen 2
        have cbx03 := bx0.cell 3 _ rfl
        have ybx03 := bx0.frozen 3
        have cbx04 := bx0.cell 4 _ rfl
        have ybx04 := bx0.frozen 4
        have cbx05 := bx0.cell 5 _ rfl
        have ybx05 := bx0.frozen 5
        refine wpAnyF_last (i := 6) (by kernel_rfl) rfl rfl (fun K hK => ?_)
        go_simp
        refine hK.out _ _ ?_
        clear hK K
        (try simp only [List.setIfInBounds_toArray, List.set_cons_zero, List.set_cons_succ])
        clear cbx00 ybx00 cbx01 ybx01 cbx02 ybx02 cbx03 ybx03 cbx04 ybx04 cbx05 ybx05
        have hg := only_store6 wf (g0_) (.bool s8) (.slice A8 n8 c8) (.slice D8 m8 e8) (.bool s9) (.slice A9 n9 c9) (.slice D9 m9 e9)
        have hB := bx0.stored6 (.bool s8) (.slice A8 n8 c8) (.slice D8 m8 e8) (.bool s9) (.slice A9 n9 c9) (.slice D9 m9 e9)
        generalize hX : ((((((wf.setCell ⟨g0_, 0, none⟩ (.bool s8)).setCell ⟨g0_, 1, none⟩ (.slice A8 n8 c8)).setCell ⟨g0_, 2, none⟩ (.slice D8 m8 e8)).setCell ⟨g0_, 3, none⟩ (.bool s9)).setCell ⟨g0_, 4, none⟩ (.slice A9 n9 c9)).setCell ⟨g0_, 5, none⟩ (.slice D9 m9 e9)) = X355 at hg hB ⊢
        clear hX
        replace h0 := h0.kept bx0 (by simp [notInt]) hg
        replace h1 := h1.kept bx0 (by simp [notInt]) hg
        replace h2 := h2.kept bx0 (by simp [notInt]) hg
        replace h3 := h3.kept bx0 (by simp [notInt]) hg
        replace bx1 := bx1.other hg (by omega)
        replace bx0 := hB
        replace H0 := below_only H0 hg (by omega) H0.size
        clear hg hB
        have cbx10 := bx1.cell 0 _ rfl
        have ybx10 := bx1.frozen 0
        have cbx11 := bx1.cell 1 _ rfl
        have ybx11 := bx1.frozen 1
        have cbx12 := bx1.cell 2 _ rfl
        have ybx12 := bx1.frozen 2
        have cbx13 := bx1.cell 3 _ rfl
        have ybx13 := bx1.frozen 3
        have cbx14 := bx1.cell 4 _ rfl
        have ybx14 := bx1.frozen 4
        have cbx15 := bx1.cell 5 _ rfl
        have ybx15 := bx1.frozen 5
        refine wpAny_one (i := 7) (by kernel_rfl) rfl (fun K hK => ?_)
        go_simp
        refine hK.out _ _ ?_
        clear hK K
        (try simp only [List.setIfInBounds_toArray, List.set_cons_zero, List.set_cons_succ])
        clear cbx10 ybx10 cbx11 ybx11 cbx12 ybx12 cbx13 ybx13 cbx14 ybx14 cbx15 ybx15
        have hg := only_store6 X355 (g1_) (.bool s10) (.slice A10 n10 c10) (.slice D10 m10 e10) (.bool s11) (.slice A11 n11 c11) (.slice D11 m11 e11)
        have hB := bx1.stored6 (.bool s10) (.slice A10 n10 c10) (.slice D10 m10 e10) (.bool s11) (.slice A11 n11 c11) (.slice D11 m11 e11)
        generalize hX : ((((((X355.setCell ⟨g1_, 0, none⟩ (.bool s10)).setCell ⟨g1_, 1, none⟩ (.slice A10 n10 c10)).setCell ⟨g1_, 2, none⟩ (.slice D10 m10 e10)).setCell ⟨g1_, 3, none⟩ (.bool s11)).setCell ⟨g1_, 4, none⟩ (.slice A11 n11 c11)).setCell ⟨g1_, 5, none⟩ (.slice D11 m11 e11)) = X356 at hg hB ⊢
        clear hX
        replace h0 := h0.kept bx1 (by simp [notInt]) hg
        replace h1 := h1.kept bx1 (by simp [notInt]) hg
        replace h2 := h2.kept bx1 (by simp [notInt]) hg
        replace h3 := h3.kept bx1 (by simp [notInt]) hg
        replace bx0 := bx0.other hg (by omega)
        replace bx1 := hB
        replace H0 := below_only H0 hg (by omega) H0.size
        clear hg hB
        refine wpAny_done (by kernel_rfl) ?_ _
        refine NoPanic.normal ?_
        go_wp2_with fail
        go_meet
        exact ⟨g0_, g1_, s8, A8, n8, c8, D8, m8, e8, s9, A9, n9, c9, D9, m9, e9, s10, A10, n10, c10, D10, m10, e10, s11, A11, n11, c11, D11, m11, e11, rfl, rfl, h0, h1, h2, h3, bx0, bx1, H0⟩
    case rest =>
      obtain ⟨g, g', s8, A8, n8, c8, D8, m8, e8, s9, A9, n9, c9, D9, m9, e9, s10, A10, n10, c10, D10, m10, e10, s11, A11, n11, c11, D11, m11, e11, rfl, rfl, h0, h1, h2, h3, ba, bb, hG⟩ := hcut
      replace f0 := f0.below hG
      replace f1 := f1.below hG
      replace f2 := f2.below hG
      replace f3 := f3.below hG
      replace b0 := b0.below hG
      replace b1 := b1.below hG
      replace H0 := H0.trans (hG.mono H0.size)
      clear hG
      have e0 : rsg (y0 : Rat) = y0.sign := rfl
      have e1 : rsg (y1 : Rat) = y1.sign := rfl
      have s0_ := sgn3 y0
      have s1_ := sgn3 y1
      have HA := Lib.hid e0
      have HB1 := Lib.hid e1
      clear e0 e1
      have HZ1 : Hid (angQ 0 0 (x0 : Rat) (y0 : Rat) = -1) := Lib.hid (ang_zero HN0.out)
      have HZ2 : Hid (angQ 0 0 0 0 = 0) := Lib.hid ang_zero0
      clear HN0
      rcases Decidable.em (0 < y0.sign) with p0_ | p0_
      · have d0 : decide (0 < y0.sign) = true := decide_eq_true p0_
        rcases Decidable.em (0 < y1.sign) with p1_ | p1_
        · have d1 : decide (0 < y1.sign) = true := decide_eq_true p1_
          obtain ⟨kc, hkc⟩ : ∃ k, rsg ((x0 : Rat) * (y1 : Rat) - (y0 : Rat) * (x1 : Rat)) = k := ⟨_, rfl⟩
          have HC := Lib.hid hkc
          have hxc : kx = -kc := by rw [← Hkx.out, ← hkc]; exact ang_up (by omega) (by omega)
          have hkc3 := rsg_cases ((x0 : Rat) * (y1 : Rat) - (y0 : Rat) * (x1 : Rat))
          rw [hkc] at hkc3
          clear hkc Hkx
          subst hxc
          rcases hkc3 with ⟨rfl, _⟩ | ⟨rfl, _⟩ | ⟨rfl, _⟩
          · have cba0 := ba.cell 0 _ rfl
            have cba1 := ba.cell 1 _ rfl
            have cba2 := ba.cell 2 _ rfl
            have cba3 := ba.cell 3 _ rfl
            have cba4 := ba.cell 4 _ rfl
            have cba5 := ba.cell 5 _ rfl
            have cbb0 := bb.cell 0 _ rfl
            have cbb1 := bb.cell 1 _ rfl
            have cbb2 := bb.cell 2 _ rfl
            have cbb3 := bb.cell 3 _ rfl
            have cbb4 := bb.cell 4 _ rfl
            have cbb5 := bb.cell 5 _ rfl
            have cb00 := b0.cell 0 _ rfl
            have cb01 := b0.cell 1 _ rfl
            have cb02 := b0.cell 2 _ rfl
            have cb03 := b0.cell 3 _ rfl
            have cb04 := b0.cell 4 _ rfl
            have cb05 := b0.cell 5 _ rfl
            have cb10 := b1.cell 0 _ rfl
            have cb11 := b1.cell 1 _ rfl
            have cb12 := b1.cell 2 _ rfl
            have cb13 := b1.cell 3 _ rfl
            have cb14 := b1.cell 4 _ rfl
            have cb15 := b1.cell 5 _ rfl
            go_wp2_with fail
            clear cba0 cba1 cba2 cba3 cba4 cba5 cbb0 cbb1 cbb2 cbb3 cbb4 cbb5 cb00 cb01 cb02 cb03 cb04 cb05 cb10 cb11 cb12 cb13 cb14 cb15
            refine (nqs_v h1 HA.out).mono ?_
            rintro e w500 ⟨rfl, hb⟩
            replace f0 := f0.below hb
            replace f1 := f1.below hb
            replace f2 := f2.below hb
            replace f3 := f3.below hb
            replace h0 := h0.below hb
            replace h1 := h1.below hb
            replace h2 := h2.below hb
            replace h3 := h3.below hb
            replace b0 := b0.below hb
            replace b1 := b1.below hb
            replace ba := ba.below hb
            replace bb := bb.below hb
            replace H0 := H0.trans (hb.mono H0.size)
            clear hb
            have cba0 := ba.cell 0 _ rfl
            have cba1 := ba.cell 1 _ rfl
            have cba2 := ba.cell 2 _ rfl
            have cba3 := ba.cell 3 _ rfl
            have cba4 := ba.cell 4 _ rfl
            have cba5 := ba.cell 5 _ rfl
            have cbb0 := bb.cell 0 _ rfl
            have cbb1 := bb.cell 1 _ rfl
            have cbb2 := bb.cell 2 _ rfl
            have cbb3 := bb.cell 3 _ rfl
            have cbb4 := bb.cell 4 _ rfl
            have cbb5 := bb.cell 5 _ rfl
            have cb00 := b0.cell 0 _ rfl
            have cb01 := b0.cell 1 _ rfl
            have cb02 := b0.cell 2 _ rfl
            have cb03 := b0.cell 3 _ rfl
            have cb04 := b0.cell 4 _ rfl
            have cb05 := b0.cell 5 _ rfl
            have cb10 := b1.cell 0 _ rfl
            have cb11 := b1.cell 1 _ rfl
            have cb12 := b1.cell 2 _ rfl
            have cb13 := b1.cell 3 _ rfl
            have cb14 := b1.cell 4 _ rfl
            have cb15 := b1.cell 5 _ rfl
            go_wp2_with fail
            clear cba0 cba1 cba2 cba3 cba4 cba5 cbb0 cbb1 cbb2 cbb3 cbb4 cbb5 cb00 cb01 cb02 cb03 cb04 cb05 cb10 cb11 cb12 cb13 cb14 cb15
            refine (nqs_v h3 HB1.out).mono ?_
            rintro e w501 ⟨rfl, hb⟩
            replace f0 := f0.below hb
            replace f1 := f1.below hb
            replace f2 := f2.below hb
            replace f3 := f3.below hb
            replace h0 := h0.below hb
            replace h1 := h1.below hb
            replace h2 := h2.below hb
            replace h3 := h3.below hb
            replace b0 := b0.below hb
            replace b1 := b1.below hb
            replace ba := ba.below hb
            replace bb := bb.below hb
            replace H0 := H0.trans (hb.mono H0.size)
            clear hb
            have cba0 := ba.cell 0 _ rfl
            have cba1 := ba.cell 1 _ rfl
            have cba2 := ba.cell 2 _ rfl
            have cba3 := ba.cell 3 _ rfl
            have cba4 := ba.cell 4 _ rfl
            have cba5 := ba.cell 5 _ rfl
            have cbb0 := bb.cell 0 _ rfl
            have cbb1 := bb.cell 1 _ rfl
            have cbb2 := bb.cell 2 _ rfl
            have cbb3 := bb.cell 3 _ rfl
            have cbb4 := bb.cell 4 _ rfl
            have cbb5 := bb.cell 5 _ rfl
            have cb00 := b0.cell 0 _ rfl
            have cb01 := b0.cell 1 _ rfl
            have cb02 := b0.cell 2 _ rfl
            have cb03 := b0.cell 3 _ rfl
            have cb04 := b0.cell 4 _ rfl
            have cb05 := b0.cell 5 _ rfl
            have cb10 := b1.cell 0 _ rfl
            have cb11 := b1.cell 1 _ rfl
            have cb12 := b1.cell 2 _ rfl
            have cb13 := b1.cell 3 _ rfl
            have cb14 := b1.cell 4 _ rfl
            have cb15 := b1.cell 5 _ rfl
            go_wp2_with fail
            clear cba0 cba1 cba2 cba3 cba4 cba5 cbb0 cbb1 cbb2 cbb3 cbb4 cbb5 cb00 cb01 cb02 cb03 cb04 cb05 cb10 cb11 cb12 cb13 cb14 cb15
            refine (pcross_v f0.rq f1.rq f2.rq f3.rq (by omega) (by omega)).mono ?_
            rintro e w502 ⟨s12, A12, n12, c12, D12, m12, e12, rfl, p12, hb⟩
            replace f0 := f0.below hb
            replace f1 := f1.below hb
            replace f2 := f2.below hb
            replace f3 := f3.below hb
            replace h0 := h0.below hb
            replace h1 := h1.below hb
            replace h2 := h2.below hb
            replace h3 := h3.below hb
            replace b0 := b0.below hb
            replace b1 := b1.below hb
            replace ba := ba.below hb
            replace bb := bb.below hb
            replace H0 := H0.trans (hb.mono H0.size)
            clear hb
            have cb00 := b0.cell 0 _ rfl
            have cb01 := b0.cell 1 _ rfl
            have cb02 := b0.cell 2 _ rfl
            have cb03 := b0.cell 3 _ rfl
            have cb04 := b0.cell 4 _ rfl
            have cb05 := b0.cell 5 _ rfl
            have cb10 := b1.cell 0 _ rfl
            have cb11 := b1.cell 1 _ rfl
            have cb12 := b1.cell 2 _ rfl
            have cb13 := b1.cell 3 _ rfl
            have cb14 := b1.cell 4 _ rfl
            have cb15 := b1.cell 5 _ rfl
            go_wp2_with fail
            clear cb00 cb01 cb02 cb03 cb04 cb05 cb10 cb11 cb12 cb13 cb14 cb15
            refine (refq_v p12.rq (by omega)).mono ?_
            rintro e w503 ⟨s13, A13, n13, c13, D13, m13, e13, rfl, p13, hb⟩
            replace f0 := f0.below hb
            replace f1 := f1.below hb
            replace f2 := f2.below hb
            replace f3 := f3.below hb
            replace h0 := h0.below hb
            replace h1 := h1.below hb
            replace h2 := h2.below hb
            replace h3 := h3.below hb
            replace p12 := p12.below hb
            replace b0 := b0.below hb
            replace b1 := b1.below hb
            replace ba := ba.below hb
            replace bb := bb.below hb
            replace H0 := H0.trans (hb.mono H0.size)
            clear hb
            have cb00 := b0.cell 0 _ rfl
            have cb01 := b0.cell 1 _ rfl
            have cb02 := b0.cell 2 _ rfl
            have cb03 := b0.cell 3 _ rfl
            have cb04 := b0.cell 4 _ rfl
            have cb05 := b0.cell 5 _ rfl
            have cb10 := b1.cell 0 _ rfl
            have cb11 := b1.cell 1 _ rfl
            have cb12 := b1.cell 2 _ rfl
            have cb13 := b1.cell 3 _ rfl
            have cb14 := b1.cell 4 _ rfl
            have cb15 := b1.cell 5 _ rfl
            go_wp2_with fail
            clear cb00 cb01 cb02 cb03 cb04 cb05 cb10 cb11 cb12 cb13 cb14 cb15
            refine (nqs_v p13 HC.out).mono ?_
            rintro e w504 ⟨rfl, hb⟩
            replace f0 := f0.below hb
            replace f1 := f1.below hb
            replace f2 := f2.below hb
            replace f3 := f3.below hb
            replace h0 := h0.below hb
            replace h1 := h1.below hb
            replace h2 := h2.below hb
            replace h3 := h3.below hb
            replace p12 := p12.below hb
            replace p13 := p13.below hb
            replace b0 := b0.below hb
            replace b1 := b1.below hb
            replace ba := ba.below hb
            replace bb := bb.below hb
            replace H0 := H0.trans (hb.mono H0.size)
            clear hb
            have cb00 := b0.cell 0 _ rfl
            have cb01 := b0.cell 1 _ rfl
            have cb02 := b0.cell 2 _ rfl
            have cb03 := b0.cell 3 _ rfl
            have cb04 := b0.cell 4 _ rfl
            have cb05 := b0.cell 5 _ rfl
            have cb10 := b1.cell 0 _ rfl
            have cb11 := b1.cell 1 _ rfl
            have cb12 := b1.cell 2 _ rfl
            have cb13 := b1.cell 3 _ rfl
            have cb14 := b1.cell 4 _ rfl
            have cb15 := b1.cell 5 _ rfl
            go_wp2_with fail
            clear p12
            clear p13
            clear cb00 cb01 cb02 cb03 cb04 cb05 cb10 cb11 cb12 cb13 cb14 cb15
            refine (HK.out _ H0).mono ?_
            rintro e w505 ⟨rfl, hb⟩
            replace f0 := f0.below hb
            replace f1 := f1.below hb
            replace f2 := f2.below hb
            replace f3 := f3.below hb
            replace h0 := h0.below hb
            replace h1 := h1.below hb
            replace h2 := h2.below hb
            replace h3 := h3.below hb
            replace b0 := b0.below hb
            replace b1 := b1.below hb
            replace ba := ba.below hb
            replace bb := bb.below hb
            replace H0 := H0.trans (hb.mono H0.size)
            clear hb
            have cb00 := b0.cell 0 _ rfl
            have cb01 := b0.cell 1 _ rfl
            have cb02 := b0.cell 2 _ rfl
            have cb03 := b0.cell 3 _ rfl
            have cb04 := b0.cell 4 _ rfl
            have cb05 := b0.cell 5 _ rfl
            have cb10 := b1.cell 0 _ rfl
            have cb11 := b1.cell 1 _ rfl
            have cb12 := b1.cell 2 _ rfl
            have cb13 := b1.cell 3 _ rfl
            have cb14 := b1.cell 4 _ rfl
            have cb15 := b1.cell 5 _ rfl
            go_wp2_with fail
            clear cb00 cb01 cb02 cb03 cb04 cb05 cb10 cb11 cb12 cb13 cb14 cb15
            refine (pangle_v (rq_zero _) (rq_zero _) f0.rq f1.rq (by omega) (by omega) HZ1.out).mono ?_
            rintro e w506 ⟨rfl, hb⟩
            replace f0 := f0.below hb
            replace f1 := f1.below hb
            replace f2 := f2.below hb
            replace f3 := f3.below hb
            replace h0 := h0.below hb
            replace h1 := h1.below hb
            replace h2 := h2.below hb
            replace h3 := h3.below hb
            replace b0 := b0.below hb
            replace b1 := b1.below hb
            replace ba := ba.below hb
            replace bb := bb.below hb
            replace H0 := H0.trans (hb.mono H0.size)
            clear hb
            have cb00 := b0.cell 0 _ rfl
            have cb01 := b0.cell 1 _ rfl
            have cb02 := b0.cell 2 _ rfl
            have cb03 := b0.cell 3 _ rfl
            have cb04 := b0.cell 4 _ rfl
            have cb05 := b0.cell 5 _ rfl
            have cb10 := b1.cell 0 _ rfl
            have cb11 := b1.cell 1 _ rfl
            have cb12 := b1.cell 2 _ rfl
            have cb13 := b1.cell 3 _ rfl
            have cb14 := b1.cell 4 _ rfl
            have cb15 := b1.cell 5 _ rfl
            go_wp2_with fail
            clear cb00 cb01 cb02 cb03 cb04 cb05 cb10 cb11 cb12 cb13 cb14 cb15
            refine (pangle_v (rq_zero _) (rq_zero _) (rq_zero _) (rq_zero _) (by omega) (by omega) HZ2.out).mono ?_
            rintro e w507 ⟨rfl, hb⟩
            replace f0 := f0.below hb
            replace f1 := f1.below hb
            replace f2 := f2.below hb
            replace f3 := f3.below hb
            replace h0 := h0.below hb
            replace h1 := h1.below hb
            replace h2 := h2.below hb
            replace h3 := h3.below hb
            replace b0 := b0.below hb
            replace b1 := b1.below hb
            replace ba := ba.below hb
            replace bb := bb.below hb
            replace H0 := H0.trans (hb.mono H0.size)
            clear hb
            go_wp2_with fail
            go_returns
            exact ⟨rfl, H0⟩
          · have cba0 := ba.cell 0 _ rfl
            have cba1 := ba.cell 1 _ rfl
            have cba2 := ba.cell 2 _ rfl
            have cba3 := ba.cell 3 _ rfl
            have cba4 := ba.cell 4 _ rfl
            have cba5 := ba.cell 5 _ rfl
            have cbb0 := bb.cell 0 _ rfl
            have cbb1 := bb.cell 1 _ rfl
            have cbb2 := bb.cell 2 _ rfl
            have cbb3 := bb.cell 3 _ rfl
            have cbb4 := bb.cell 4 _ rfl
            have cbb5 := bb.cell 5 _ rfl
            have cb00 := b0.cell 0 _ rfl
            have cb01 := b0.cell 1 _ rfl
            have cb02 := b0.cell 2 _ rfl
            have cb03 := b0.cell 3 _ rfl
            have cb04 := b0.cell 4 _ rfl
            have cb05 := b0.cell 5 _ rfl
            have cb10 := b1.cell 0 _ rfl
            have cb11 := b1.cell 1 _ rfl
            have cb12 := b1.cell 2 _ rfl
            have cb13 := b1.cell 3 _ rfl
            have cb14 := b1.cell 4 _ rfl
            have cb15 := b1.cell 5 _ rfl
            go_wp2_with fail
            clear cba0 cba1 cba2 cba3 cba4 cba5 cbb0 cbb1 cbb2 cbb3 cbb4 cbb5 cb00 cb01 cb02 cb03 cb04 cb05 cb10 cb11 cb12 cb13 cb14 cb15
            refine (nqs_v h1 HA.out).mono ?_
            rintro e w500 ⟨rfl, hb⟩
            replace f0 := f0.below hb
            replace f1 := f1.below hb
            replace f2 := f2.below hb
            replace f3 := f3.below hb
            replace h0 := h0.below hb
            replace h1 := h1.below hb
            replace h2 := h2.below hb
            replace h3 := h3.below hb
            replace b0 := b0.below hb
            replace b1 := b1.below hb
            replace ba := ba.below hb
            replace bb := bb.below hb
            replace H0 := H0.trans (hb.mono H0.size)
            clear hb
            have cba0 := ba.cell 0 _ rfl
            have cba1 := ba.cell 1 _ rfl
            have cba2 := ba.cell 2 _ rfl
            have cba3 := ba.cell 3 _ rfl
            have cba4 := ba.cell 4 _ rfl
            have cba5 := ba.cell 5 _ rfl
            have cbb0 := bb.cell 0 _ rfl
            have cbb1 := bb.cell 1 _ rfl
            have cbb2 := bb.cell 2 _ rfl
            have cbb3 := bb.cell 3 _ rfl
            have cbb4 := bb.cell 4 _ rfl
            have cbb5 := bb.cell 5 _ rfl
            have cb00 := b0.cell 0 _ rfl
            have cb01 := b0.cell 1 _ rfl
            have cb02 := b0.cell 2 _ rfl
            have cb03 := b0.cell 3 _ rfl
            have cb04 := b0.cell 4 _ rfl
            have cb05 := b0.cell 5 _ rfl
            have cb10 := b1.cell 0 _ rfl
            have cb11 := b1.cell 1 _ rfl
            have cb12 := b1.cell 2 _ rfl
            have cb13 := b1.cell 3 _ rfl
            have cb14 := b1.cell 4 _ rfl
            have cb15 := b1.cell 5 _ rfl
            go_wp2_with fail
            clear cba0 cba1 cba2 cba3 cba4 cba5 cbb0 cbb1 cbb2 cbb3 cbb4 cbb5 cb00 cb01 cb02 cb03 cb04 cb05 cb10 cb11 cb12 cb13 cb14 cb15
            refine (nqs_v h3 HB1.out).mono ?_
            rintro e w501 ⟨rfl, hb⟩
            replace f0 := f0.below hb
            replace f1 := f1.below hb
            replace f2 := f2.below hb
            replace f3 := f3.below hb
            replace h0 := h0.below hb
            replace h1 := h1.below hb
            replace h2 := h2.below hb
            replace h3 := h3.below hb
            replace b0 := b0.below hb
            replace b1 := b1.below hb
            replace ba := ba.below hb
            replace bb := bb.below hb
            replace H0 := H0.trans (hb.mono H0.size)
            clear hb
            have cba0 := ba.cell 0 _ rfl
            have cba1 := ba.cell 1 _ rfl
            have cba2 := ba.cell 2 _ rfl
            have cba3 := ba.cell 3 _ rfl
            have cba4 := ba.cell 4 _ rfl
            have cba5 := ba.cell 5 _ rfl
            have cbb0 := bb.cell 0 _ rfl
            have cbb1 := bb.cell 1 _ rfl
            have cbb2 := bb.cell 2 _ rfl
            have cbb3 := bb.cell 3 _ rfl
            have cbb4 := bb.cell 4 _ rfl
            have cbb5 := bb.cell 5 _ rfl
            have cb00 := b0.cell 0 _ rfl
            have cb01 := b0.cell 1 _ rfl
            have cb02 := b0.cell 2 _ rfl
            have cb03 := b0.cell 3 _ rfl
            have cb04 := b0.cell 4 _ rfl
            have cb05 := b0.cell 5 _ rfl
            have cb10 := b1.cell 0 _ rfl
            have cb11 := b1.cell 1 _ rfl
            have cb12 := b1.cell 2 _ rfl
            have cb13 := b1.cell 3 _ rfl
            have cb14 := b1.cell 4 _ rfl
            have cb15 := b1.cell 5 _ rfl
            go_wp2_with fail
            clear cba0 cba1 cba2 cba3 cba4 cba5 cbb0 cbb1 cbb2 cbb3 cbb4 cbb5 cb00 cb01 cb02 cb03 cb04 cb05 cb10 cb11 cb12 cb13 cb14 cb15
            refine (pcross_v f0.rq f1.rq f2.rq f3.rq (by omega) (by omega)).mono ?_
            rintro e w502 ⟨s12, A12, n12, c12, D12, m12, e12, rfl, p12, hb⟩
            replace f0 := f0.below hb
            replace f1 := f1.below hb
            replace f2 := f2.below hb
            replace f3 := f3.below hb
            replace h0 := h0.below hb
            replace h1 := h1.below hb
            replace h2 := h2.below hb
            replace h3 := h3.below hb
            replace b0 := b0.below hb
            replace b1 := b1.below hb
            replace ba := ba.below hb
            replace bb := bb.below hb
            replace H0 := H0.trans (hb.mono H0.size)
            clear hb
            have cb00 := b0.cell 0 _ rfl
            have cb01 := b0.cell 1 _ rfl
            have cb02 := b0.cell 2 _ rfl
            have cb03 := b0.cell 3 _ rfl
            have cb04 := b0.cell 4 _ rfl
            have cb05 := b0.cell 5 _ rfl
            have cb10 := b1.cell 0 _ rfl
            have cb11 := b1.cell 1 _ rfl
            have cb12 := b1.cell 2 _ rfl
            have cb13 := b1.cell 3 _ rfl
            have cb14 := b1.cell 4 _ rfl
            have cb15 := b1.cell 5 _ rfl
            go_wp2_with fail
            clear cb00 cb01 cb02 cb03 cb04 cb05 cb10 cb11 cb12 cb13 cb14 cb15
            refine (refq_v p12.rq (by omega)).mono ?_
            rintro e w503 ⟨s13, A13, n13, c13, D13, m13, e13, rfl, p13, hb⟩
            replace f0 := f0.below hb
            replace f1 := f1.below hb
            replace f2 := f2.below hb
            replace f3 := f3.below hb
            replace h0 := h0.below hb
            replace h1 := h1.below hb
            replace h2 := h2.below hb
            replace h3 := h3.below hb
            replace p12 := p12.below hb
            replace b0 := b0.below hb
            replace b1 := b1.below hb
            replace ba := ba.below hb
            replace bb := bb.below hb
            replace H0 := H0.trans (hb.mono H0.size)
            clear hb
            have cb00 := b0.cell 0 _ rfl
            have cb01 := b0.cell 1 _ rfl
            have cb02 := b0.cell 2 _ rfl
            have cb03 := b0.cell 3 _ rfl
            have cb04 := b0.cell 4 _ rfl
            have cb05 := b0.cell 5 _ rfl
            have cb10 := b1.cell 0 _ rfl
            have cb11 := b1.cell 1 _ rfl
            have cb12 := b1.cell 2 _ rfl
            have cb13 := b1.cell 3 _ rfl
            have cb14 := b1.cell 4 _ rfl
            have cb15 := b1.cell 5 _ rfl
            go_wp2_with fail
            clear cb00 cb01 cb02 cb03 cb04 cb05 cb10 cb11 cb12 cb13 cb14 cb15
            refine (nqs_v p13 HC.out).mono ?_
            rintro e w504 ⟨rfl, hb⟩
            replace f0 := f0.below hb
            replace f1 := f1.below hb
            replace f2 := f2.below hb
            replace f3 := f3.below hb
            replace h0 := h0.below hb
            replace h1 := h1.below hb
            replace h2 := h2.below hb
            replace h3 := h3.below hb
            replace p12 := p12.below hb
            replace p13 := p13.below hb
            replace b0 := b0.below hb
            replace b1 := b1.below hb
            replace ba := ba.below hb
            replace bb := bb.below hb
            replace H0 := H0.trans (hb.mono H0.size)
            clear hb
            have cb00 := b0.cell 0 _ rfl
            have cb01 := b0.cell 1 _ rfl
            have cb02 := b0.cell 2 _ rfl
            have cb03 := b0.cell 3 _ rfl
            have cb04 := b0.cell 4 _ rfl
            have cb05 := b0.cell 5 _ rfl
            have cb10 := b1.cell 0 _ rfl
            have cb11 := b1.cell 1 _ rfl
            have cb12 := b1.cell 2 _ rfl
            have cb13 := b1.cell 3 _ rfl
            have cb14 := b1.cell 4 _ rfl
            have cb15 := b1.cell 5 _ rfl
            go_wp2_with fail
            clear p12
            clear p13
            clear cb00 cb01 cb02 cb03 cb04 cb05 cb10 cb11 cb12 cb13 cb14 cb15
            refine (HK.out _ H0).mono ?_
            rintro e w505 ⟨rfl, hb⟩
            replace f0 := f0.below hb
            replace f1 := f1.below hb
            replace f2 := f2.below hb
            replace f3 := f3.below hb
            replace h0 := h0.below hb
            replace h1 := h1.below hb
            replace h2 := h2.below hb
            replace h3 := h3.below hb
            replace b0 := b0.below hb
            replace b1 := b1.below hb
            replace ba := ba.below hb
            replace bb := bb.below hb
            replace H0 := H0.trans (hb.mono H0.size)
            clear hb
            have cb00 := b0.cell 0 _ rfl
            have cb01 := b0.cell 1 _ rfl
            have cb02 := b0.cell 2 _ rfl
            have cb03 := b0.cell 3 _ rfl
            have cb04 := b0.cell 4 _ rfl
            have cb05 := b0.cell 5 _ rfl
            have cb10 := b1.cell 0 _ rfl
            have cb11 := b1.cell 1 _ rfl
            have cb12 := b1.cell 2 _ rfl
            have cb13 := b1.cell 3 _ rfl
            have cb14 := b1.cell 4 _ rfl
            have cb15 := b1.cell 5 _ rfl
            go_wp2_with fail
            clear cb00 cb01 cb02 cb03 cb04 cb05 cb10 cb11 cb12 cb13 cb14 cb15
            refine (pangle_v (rq_zero _) (rq_zero _) f0.rq f1.rq (by omega) (by omega) HZ1.out).mono ?_
            rintro e w506 ⟨rfl, hb⟩
            replace f0 := f0.below hb
            replace f1 := f1.below hb
            replace f2 := f2.below hb
            replace f3 := f3.below hb
            replace h0 := h0.below hb
            replace h1 := h1.below hb
            replace h2 := h2.below hb
            replace h3 := h3.below hb
            replace b0 := b0.below hb
            replace b1 := b1.below hb
            replace ba := ba.below hb
            replace bb := bb.below hb
            replace H0 := H0.trans (hb.mono H0.size)
            clear hb
            have cb00 := b0.cell 0 _ rfl
            have cb01 := b0.cell 1 _ rfl
            have cb02 := b0.cell 2 _ rfl
            have cb03 := b0.cell 3 _ rfl
            have cb04 := b0.cell 4 _ rfl
            have cb05 := b0.cell 5 _ rfl
            have cb10 := b1.cell 0 _ rfl
            have cb11 := b1.cell 1 _ rfl
            have cb12 := b1.cell 2 _ rfl
            have cb13 := b1.cell 3 _ rfl
            have cb14 := b1.cell 4 _ rfl
            have cb15 := b1.cell 5 _ rfl
            go_wp2_with fail
            clear cb00 cb01 cb02 cb03 cb04 cb05 cb10 cb11 cb12 cb13 cb14 cb15
            refine (pangle_v (rq_zero _) (rq_zero _) (rq_zero _) (rq_zero _) (by omega) (by omega) HZ2.out).mono ?_
            rintro e w507 ⟨rfl, hb⟩
            replace f0 := f0.below hb
            replace f1 := f1.below hb
            replace f2 := f2.below hb
            replace f3 := f3.below hb
            replace h0 := h0.below hb
            replace h1 := h1.below hb
            replace h2 := h2.below hb
            replace h3 := h3.below hb
            replace b0 := b0.below hb
            replace b1 := b1.below hb
            replace ba := ba.below hb
            replace bb := bb.below hb
            replace H0 := H0.trans (hb.mono H0.size)
            clear hb
            go_wp2_with fail
            go_returns
            exact ⟨rfl, H0⟩
          · have cba0 := ba.cell 0 _ rfl
            have cba1 := ba.cell 1 _ rfl
            have cba2 := ba.cell 2 _ rfl
            have cba3 := ba.cell 3 _ rfl
            have cba4 := ba.cell 4 _ rfl
            have cba5 := ba.cell 5 _ rfl
            have cbb0 := bb.cell 0 _ rfl
            have cbb1 := bb.cell 1 _ rfl
            have cbb2 := bb.cell 2 _ rfl
            have cbb3 := bb.cell 3 _ rfl
            have cbb4 := bb.cell 4 _ rfl
            have cbb5 := bb.cell 5 _ rfl
            have cb00 := b0.cell 0 _ rfl
            have cb01 := b0.cell 1 _ rfl
            have cb02 := b0.cell 2 _ rfl
            have cb03 := b0.cell 3 _ rfl
            have cb04 := b0.cell 4 _ rfl
            have cb05 := b0.cell 5 _ rfl
            have cb10 := b1.cell 0 _ rfl
            have cb11 := b1.cell 1 _ rfl
            have cb12 := b1.cell 2 _ rfl
            have cb13 := b1.cell 3 _ rfl
            have cb14 := b1.cell 4 _ rfl
            have cb15 := b1.cell 5 _ rfl
            go_wp2_with fail
            clear cba0 cba1 cba2 cba3 cba4 cba5 cbb0 cbb1 cbb2 cbb3 cbb4 cbb5 cb00 cb01 cb02 cb03 cb04 cb05 cb10 cb11 cb12 cb13 cb14 cb15
            refine (nqs_v h1 HA.out).mono ?_
            rintro e w500 ⟨rfl, hb⟩
            replace f0 := f0.below hb
            replace f1 := f1.below hb
            replace f2 := f2.below hb
            replace f3 := f3.below hb
            replace h0 := h0.below hb
            replace h1 := h1.below hb
            replace h2 := h2.below hb
            replace h3 := h3.below hb
            replace b0 := b0.below hb
            replace b1 := b1.below hb
            replace ba := ba.below hb
            replace bb := bb.below hb
            replace H0 := H0.trans (hb.mono H0.size)
            clear hb
            have cba0 := ba.cell 0 _ rfl
            have cba1 := ba.cell 1 _ rfl
            have cba2 := ba.cell 2 _ rfl
            have cba3 := ba.cell 3 _ rfl
            have cba4 := ba.cell 4 _ rfl
            have cba5 := ba.cell 5 _ rfl
            have cbb0 := bb.cell 0 _ rfl
            have cbb1 := bb.cell 1 _ rfl
            have cbb2 := bb.cell 2 _ rfl
            have cbb3 := bb.cell 3 _ rfl
            have cbb4 := bb.cell 4 _ rfl
            have cbb5 := bb.cell 5 _ rfl
            have cb00 := b0.cell 0 _ rfl
            have cb01 := b0.cell 1 _ rfl
            have cb02 := b0.cell 2 _ rfl
            have cb03 := b0.cell 3 _ rfl
            have cb04 := b0.cell 4 _ rfl
            have cb05 := b0.cell 5 _ rfl
            have cb10 := b1.cell 0 _ rfl
            have cb11 := b1.cell 1 _ rfl
            have cb12 := b1.cell 2 _ rfl
            have cb13 := b1.cell 3 _ rfl
            have cb14 := b1.cell 4 _ rfl
            have cb15 := b1.cell 5 _ rfl
            go_wp2_with fail
            clear cba0 cba1 cba2 cba3 cba4 cba5 cbb0 cbb1 cbb2 cbb3 cbb4 cbb5 cb00 cb01 cb02 cb03 cb04 cb05 cb10 cb11 cb12 cb13 cb14 cb15
            refine (nqs_v h3 HB1.out).mono ?_
            rintro e w501 ⟨rfl, hb⟩
            replace f0 := f0.below hb
            replace f1 := f1.below hb
            replace f2 := f2.below hb
            replace f3 := f3.below hb
            replace h0 := h0.below hb
            replace h1 := h1.below hb
            replace h2 := h2.below hb
            replace h3 := h3.below hb
            replace b0 := b0.below hb
            replace b1 := b1.below hb
            replace ba := ba.below hb
            replace bb := bb.below hb
            replace H0 := H0.trans (hb.mono H0.size)
            clear hb
            have cba0 := ba.cell 0 _ rfl
            have cba1 := ba.cell 1 _ rfl
            have cba2 := ba.cell 2 _ rfl
            have cba3 := ba.cell 3 _ rfl
            have cba4 := ba.cell 4 _ rfl
            have cba5 := ba.cell 5 _ rfl
            have cbb0 := bb.cell 0 _ rfl
            have cbb1 := bb.cell 1 _ rfl
            have cbb2 := bb.cell 2 _ rfl
            have cbb3 := bb.cell 3 _ rfl
            have cbb4 := bb.cell 4 _ rfl
            have cbb5 := bb.cell 5 _ rfl
            have cb00 := b0.cell 0 _ rfl
            have cb01 := b0.cell 1 _ rfl
            have cb02 := b0.cell 2 _ rfl
            have cb03 := b0.cell 3 _ rfl
            have cb04 := b0.cell 4 _ rfl
            have cb05 := b0.cell 5 _ rfl
            have cb10 := b1.cell 0 _ rfl
            have cb11 := b1.cell 1 _ rfl
            have cb12 := b1.cell 2 _ rfl
            have cb13 := b1.cell 3 _ rfl
            have cb14 := b1.cell 4 _ rfl
            have cb15 := b1.cell 5 _ rfl
            go_wp2_with fail
            clear cba0 cba1 cba2 cba3 cba4 cba5 cbb0 cbb1 cbb2 cbb3 cbb4 cbb5 cb00 cb01 cb02 cb03 cb04 cb05 cb10 cb11 cb12 cb13 cb14 cb15
            refine (pcross_v f0.rq f1.rq f2.rq f3.rq (by omega) (by omega)).mono ?_
            rintro e w502 ⟨s12, A12, n12, c12, D12, m12, e12, rfl, p12, hb⟩
            replace f0 := f0.below hb
            replace f1 := f1.below hb
            replace f2 := f2.below hb
            replace f3 := f3.below hb
            replace h0 := h0.below hb
            replace h1 := h1.below hb
            replace h2 := h2.below hb
            replace h3 := h3.below hb
            replace b0 := b0.below hb
            replace b1 := b1.below hb
            replace ba := ba.below hb
            replace bb := bb.below hb
            replace H0 := H0.trans (hb.mono H0.size)
            clear hb
            have cb00 := b0.cell 0 _ rfl
            have cb01 := b0.cell 1 _ rfl
            have cb02 := b0.cell 2 _ rfl
            have cb03 := b0.cell 3 _ rfl
            have cb04 := b0.cell 4 _ rfl
            have cb05 := b0.cell 5 _ rfl
            have cb10 := b1.cell 0 _ rfl
            have cb11 := b1.cell 1 _ rfl
            have cb12 := b1.cell 2 _ rfl
            have cb13 := b1.cell 3 _ rfl
            have cb14 := b1.cell 4 _ rfl
            have cb15 := b1.cell 5 _ rfl
            go_wp2_with fail
            clear cb00 cb01 cb02 cb03 cb04 cb05 cb10 cb11 cb12 cb13 cb14 cb15
            refine (refq_v p12.rq (by omega)).mono ?_
            rintro e w503 ⟨s13, A13, n13, c13, D13, m13, e13, rfl, p13, hb⟩
            replace f0 := f0.below hb
            replace f1 := f1.below hb
            replace f2 := f2.below hb
            replace f3 := f3.below hb
            replace h0 := h0.below hb
            replace h1 := h1.below hb
            replace h2 := h2.below hb
            replace h3 := h3.below hb
            replace p12 := p12.below hb
            replace b0 := b0.below hb
            replace b1 := b1.below hb
            replace ba := ba.below hb
            replace bb := bb.below hb
            replace H0 := H0.trans (hb.mono H0.size)
            clear hb
            have cb00 := b0.cell 0 _ rfl
            have cb01 := b0.cell 1 _ rfl
            have cb02 := b0.cell 2 _ rfl
            have cb03 := b0.cell 3 _ rfl
            have cb04 := b0.cell 4 _ rfl
            have cb05 := b0.cell 5 _ rfl
            have cb10 := b1.cell 0 _ rfl
            have cb11 := b1.cell 1 _ rfl
            have cb12 := b1.cell 2 _ rfl
            have cb13 := b1.cell 3 _ rfl
            have cb14 := b1.cell 4 _ rfl
            have cb15 := b1.cell 5 _ rfl
            go_wp2_with fail
            clear cb00 cb01 cb02 cb03 cb04 cb05 cb10 cb11 cb12 cb13 cb14 cb15
            refine (nqs_v p13 HC.out).mono ?_
            rintro e w504 ⟨rfl, hb⟩
            replace f0 := f0.below hb
            replace f1 := f1.below hb
            replace f2 := f2.below hb
            replace f3 := f3.below hb
            replace h0 := h0.below hb
            replace h1 := h1.below hb
            replace h2 := h2.below hb
            replace h3 := h3.below hb
            replace p12 := p12.below hb
            replace p13 := p13.below hb
            replace b0 := b0.below hb
            replace b1 := b1.below hb
            replace ba := ba.below hb
            replace bb := bb.below hb
            replace H0 := H0.trans (hb.mono H0.size)
            clear hb
            have cb00 := b0.cell 0 _ rfl
            have cb01 := b0.cell 1 _ rfl
            have cb02 := b0.cell 2 _ rfl
            have cb03 := b0.cell 3 _ rfl
            have cb04 := b0.cell 4 _ rfl
            have cb05 := b0.cell 5 _ rfl
            have cb10 := b1.cell 0 _ rfl
            have cb11 := b1.cell 1 _ rfl
            have cb12 := b1.cell 2 _ rfl
            have cb13 := b1.cell 3 _ rfl
            have cb14 := b1.cell 4 _ rfl
            have cb15 := b1.cell 5 _ rfl
            go_wp2_with fail
            clear p12
            clear p13
            clear cb00 cb01 cb02 cb03 cb04 cb05 cb10 cb11 cb12 cb13 cb14 cb15
            refine (HK.out _ H0).mono ?_
            rintro e w505 ⟨rfl, hb⟩
            replace f0 := f0.below hb
            replace f1 := f1.below hb
            replace f2 := f2.below hb
            replace f3 := f3.below hb
            replace h0 := h0.below hb
            replace h1 := h1.below hb
            replace h2 := h2.below hb
            replace h3 := h3.below hb
            replace b0 := b0.below hb
            replace b1 := b1.below hb
            replace ba := ba.below hb
            replace bb := bb.below hb
            replace H0 := H0.trans (hb.mono H0.size)
            clear hb
            have cb00 := b0.cell 0 _ rfl
            have cb01 := b0.cell 1 _ rfl
            have cb02 := b0.cell 2 _ rfl
            have cb03 := b0.cell 3 _ rfl
            have cb04 := b0.cell 4 _ rfl
            have cb05 := b0.cell 5 _ rfl
            have cb10 := b1.cell 0 _ rfl
            have cb11 := b1.cell 1 _ rfl
            have cb12 := b1.cell 2 _ rfl
            have cb13 := b1.cell 3 _ rfl
            have cb14 := b1.cell 4 _ rfl
            have cb15 := b1.cell 5 _ rfl
            go_wp2_with fail
            clear cb00 cb01 cb02 cb03 cb04 cb05 cb10 cb11 cb12 cb13 cb14 cb15
            refine (pangle_v (rq_zero _) (rq_zero _) f0.rq f1.rq (by omega) (by omega) HZ1.out).mono ?_
            rintro e w506 ⟨rfl, hb⟩
            replace f0 := f0.below hb
            replace f1 := f1.below hb
            replace f2 := f2.below hb
            replace f3 := f3.below hb
            replace h0 := h0.below hb
            replace h1 := h1.below hb
            replace h2 := h2.below hb
            replace h3 := h3.below hb
            replace b0 := b0.below hb
            replace b1 := b1.below hb
            replace ba := ba.below hb
            replace bb := bb.below hb
            replace H0 := H0.trans (hb.mono H0.size)
            clear hb
            have cb00 := b0.cell 0 _ rfl
            have cb01 := b0.cell 1 _ rfl
            have cb02 := b0.cell 2 _ rfl
            have cb03 := b0.cell 3 _ rfl
            have cb04 := b0.cell 4 _ rfl
            have cb05 := b0.cell 5 _ rfl
            have cb10 := b1.cell 0 _ rfl
            have cb11 := b1.cell 1 _ rfl
            have cb12 := b1.cell 2 _ rfl
            have cb13 := b1.cell 3 _ rfl
            have cb14 := b1.cell 4 _ rfl
            have cb15 := b1.cell 5 _ rfl
            go_wp2_with fail
            clear cb00 cb01 cb02 cb03 cb04 cb05 cb10 cb11 cb12 cb13 cb14 cb15
            refine (pangle_v (rq_zero _) (rq_zero _) (rq_zero _) (rq_zero _) (by omega) (by omega) HZ2.out).mono ?_
            rintro e w507 ⟨rfl, hb⟩
            replace f0 := f0.below hb
            replace f1 := f1.below hb
            replace f2 := f2.below hb
            replace f3 := f3.below hb
            replace h0 := h0.below hb
            replace h1 := h1.below hb
            replace h2 := h2.below hb
            replace h3 := h3.below hb
            replace b0 := b0.below hb
            replace b1 := b1.below hb
            replace ba := ba.below hb
            replace bb := bb.below hb
            replace H0 := H0.trans (hb.mono H0.size)
            clear hb
            go_wp2_with fail
            go_returns
            exact ⟨rfl, H0⟩
        · have d1 : decide (0 < y1.sign) = false := decide_eq_false p1_
          have cba0 := ba.cell 0 _ rfl
          have cba1 := ba.cell 1 _ rfl
          have cba2 := ba.cell 2 _ rfl
          have cba3 := ba.cell 3 _ rfl
          have cba4 := ba.cell 4 _ rfl
          have cba5 := ba.cell 5 _ rfl
          have cbb0 := bb.cell 0 _ rfl
          have cbb1 := bb.cell 1 _ rfl
          have cbb2 := bb.cell 2 _ rfl
          have cbb3 := bb.cell 3 _ rfl
          have cbb4 := bb.cell 4 _ rfl
          have cbb5 := bb.cell 5 _ rfl
          have cb00 := b0.cell 0 _ rfl
          have cb01 := b0.cell 1 _ rfl
          have cb02 := b0.cell 2 _ rfl
          have cb03 := b0.cell 3 _ rfl
          have cb04 := b0.cell 4 _ rfl
          have cb05 := b0.cell 5 _ rfl
          have cb10 := b1.cell 0 _ rfl
          have cb11 := b1.cell 1 _ rfl
          have cb12 := b1.cell 2 _ rfl
          have cb13 := b1.cell 3 _ rfl
          have cb14 := b1.cell 4 _ rfl
          have cb15 := b1.cell 5 _ rfl
          go_wp2_with fail
          clear cba0 cba1 cba2 cba3 cba4 cba5 cbb0 cbb1 cbb2 cbb3 cbb4 cbb5 cb00 cb01 cb02 cb03 cb04 cb05 cb10 cb11 cb12 cb13 cb14 cb15
          refine (nqs_v h1 HA.out).mono ?_
          rintro e w500 ⟨rfl, hb⟩
          replace f0 := f0.below hb
          replace f1 := f1.below hb
          replace f2 := f2.below hb
          replace f3 := f3.below hb
          replace h0 := h0.below hb
          replace h1 := h1.below hb
          replace h2 := h2.below hb
          replace h3 := h3.below hb
          replace b0 := b0.below hb
          replace b1 := b1.below hb
          replace ba := ba.below hb
          replace bb := bb.below hb
          replace H0 := H0.trans (hb.mono H0.size)
          clear hb
          have cba0 := ba.cell 0 _ rfl
          have cba1 := ba.cell 1 _ rfl
          have cba2 := ba.cell 2 _ rfl
          have cba3 := ba.cell 3 _ rfl
          have cba4 := ba.cell 4 _ rfl
          have cba5 := ba.cell 5 _ rfl
          have cbb0 := bb.cell 0 _ rfl
          have cbb1 := bb.cell 1 _ rfl
          have cbb2 := bb.cell 2 _ rfl
          have cbb3 := bb.cell 3 _ rfl
          have cbb4 := bb.cell 4 _ rfl
          have cbb5 := bb.cell 5 _ rfl
          have cb00 := b0.cell 0 _ rfl
          have cb01 := b0.cell 1 _ rfl
          have cb02 := b0.cell 2 _ rfl
          have cb03 := b0.cell 3 _ rfl
          have cb04 := b0.cell 4 _ rfl
          have cb05 := b0.cell 5 _ rfl
          have cb10 := b1.cell 0 _ rfl
          have cb11 := b1.cell 1 _ rfl
          have cb12 := b1.cell 2 _ rfl
          have cb13 := b1.cell 3 _ rfl
          have cb14 := b1.cell 4 _ rfl
          have cb15 := b1.cell 5 _ rfl
          go_wp2_with fail
          clear cba0 cba1 cba2 cba3 cba4 cba5 cbb0 cbb1 cbb2 cbb3 cbb4 cbb5 cb00 cb01 cb02 cb03 cb04 cb05 cb10 cb11 cb12 cb13 cb14 cb15
          refine (nqs_v h3 HB1.out).mono ?_
          rintro e w501 ⟨rfl, hb⟩
          replace f0 := f0.below hb
          replace f1 := f1.below hb
          replace f2 := f2.below hb
          replace f3 := f3.below hb
          replace h0 := h0.below hb
          replace h1 := h1.below hb
          replace h2 := h2.below hb
          replace h3 := h3.below hb
          replace b0 := b0.below hb
          replace b1 := b1.below hb
          replace ba := ba.below hb
          replace bb := bb.below hb
          replace H0 := H0.trans (hb.mono H0.size)
          clear hb
          have cba0 := ba.cell 0 _ rfl
          have cba1 := ba.cell 1 _ rfl
          have cba2 := ba.cell 2 _ rfl
          have cba3 := ba.cell 3 _ rfl
          have cba4 := ba.cell 4 _ rfl
          have cba5 := ba.cell 5 _ rfl
          have cbb0 := bb.cell 0 _ rfl
          have cbb1 := bb.cell 1 _ rfl
          have cbb2 := bb.cell 2 _ rfl
          have cbb3 := bb.cell 3 _ rfl
          have cbb4 := bb.cell 4 _ rfl
          have cbb5 := bb.cell 5 _ rfl
          have cb00 := b0.cell 0 _ rfl
          have cb01 := b0.cell 1 _ rfl
          have cb02 := b0.cell 2 _ rfl
          have cb03 := b0.cell 3 _ rfl
          have cb04 := b0.cell 4 _ rfl
          have cb05 := b0.cell 5 _ rfl
          have cb10 := b1.cell 0 _ rfl
          have cb11 := b1.cell 1 _ rfl
          have cb12 := b1.cell 2 _ rfl
          have cb13 := b1.cell 3 _ rfl
          have cb14 := b1.cell 4 _ rfl
          have cb15 := b1.cell 5 _ rfl
          go_wp2_with fail
          clear cba0 cba1 cba2 cba3 cba4 cba5 cbb0 cbb1 cbb2 cbb3 cbb4 cbb5 cb00 cb01 cb02 cb03 cb04 cb05 cb10 cb11 cb12 cb13 cb14 cb15
          refine (HK.out _ H0).mono ?_
          rintro e w502 ⟨rfl, hb⟩
          replace f0 := f0.below hb
          replace f1 := f1.below hb
          replace f2 := f2.below hb
          replace f3 := f3.below hb
          replace h0 := h0.below hb
          replace h1 := h1.below hb
          replace h2 := h2.below hb
          replace h3 := h3.below hb
          replace b0 := b0.below hb
          replace b1 := b1.below hb
          replace ba := ba.below hb
          replace bb := bb.below hb
          replace H0 := H0.trans (hb.mono H0.size)
          clear hb
          have cb00 := b0.cell 0 _ rfl
          have cb01 := b0.cell 1 _ rfl
          have cb02 := b0.cell 2 _ rfl
          have cb03 := b0.cell 3 _ rfl
          have cb04 := b0.cell 4 _ rfl
          have cb05 := b0.cell 5 _ rfl
          have cb10 := b1.cell 0 _ rfl
          have cb11 := b1.cell 1 _ rfl
          have cb12 := b1.cell 2 _ rfl
          have cb13 := b1.cell 3 _ rfl
          have cb14 := b1.cell 4 _ rfl
          have cb15 := b1.cell 5 _ rfl
          go_wp2_with fail
          clear cb00 cb01 cb02 cb03 cb04 cb05 cb10 cb11 cb12 cb13 cb14 cb15
          refine (pangle_v (rq_zero _) (rq_zero _) f0.rq f1.rq (by omega) (by omega) HZ1.out).mono ?_
          rintro e w503 ⟨rfl, hb⟩
          replace f0 := f0.below hb
          replace f1 := f1.below hb
          replace f2 := f2.below hb
          replace f3 := f3.below hb
          replace h0 := h0.below hb
          replace h1 := h1.below hb
          replace h2 := h2.below hb
          replace h3 := h3.below hb
          replace b0 := b0.below hb
          replace b1 := b1.below hb
          replace ba := ba.below hb
          replace bb := bb.below hb
          replace H0 := H0.trans (hb.mono H0.size)
          clear hb
          have cb00 := b0.cell 0 _ rfl
          have cb01 := b0.cell 1 _ rfl
          have cb02 := b0.cell 2 _ rfl
          have cb03 := b0.cell 3 _ rfl
          have cb04 := b0.cell 4 _ rfl
          have cb05 := b0.cell 5 _ rfl
          have cb10 := b1.cell 0 _ rfl
          have cb11 := b1.cell 1 _ rfl
          have cb12 := b1.cell 2 _ rfl
          have cb13 := b1.cell 3 _ rfl
          have cb14 := b1.cell 4 _ rfl
          have cb15 := b1.cell 5 _ rfl
          go_wp2_with fail
          clear cb00 cb01 cb02 cb03 cb04 cb05 cb10 cb11 cb12 cb13 cb14 cb15
          refine (pangle_v (rq_zero _) (rq_zero _) (rq_zero _) (rq_zero _) (by omega) (by omega) HZ2.out).mono ?_
          rintro e w504 ⟨rfl, hb⟩
          replace f0 := f0.below hb
          replace f1 := f1.below hb
          replace f2 := f2.below hb
          replace f3 := f3.below hb
          replace h0 := h0.below hb
          replace h1 := h1.below hb
          replace h2 := h2.below hb
          replace h3 := h3.below hb
          replace b0 := b0.below hb
          replace b1 := b1.below hb
          replace ba := ba.below hb
          replace bb := bb.below hb
          replace H0 := H0.trans (hb.mono H0.size)
          clear hb
          go_wp2_with fail
          go_returns
          exact ⟨rfl, H0⟩
      · have d0 : decide (0 < y0.sign) = false := decide_eq_false p0_
        have cba0 := ba.cell 0 _ rfl
        have cba1 := ba.cell 1 _ rfl
        have cba2 := ba.cell 2 _ rfl
        have cba3 := ba.cell 3 _ rfl
        have cba4 := ba.cell 4 _ rfl
        have cba5 := ba.cell 5 _ rfl
        have cbb0 := bb.cell 0 _ rfl
        have cbb1 := bb.cell 1 _ rfl
        have cbb2 := bb.cell 2 _ rfl
        have cbb3 := bb.cell 3 _ rfl
        have cbb4 := bb.cell 4 _ rfl
        have cbb5 := bb.cell 5 _ rfl
        have cb00 := b0.cell 0 _ rfl
        have cb01 := b0.cell 1 _ rfl
        have cb02 := b0.cell 2 _ rfl
        have cb03 := b0.cell 3 _ rfl
        have cb04 := b0.cell 4 _ rfl
        have cb05 := b0.cell 5 _ rfl
        have cb10 := b1.cell 0 _ rfl
        have cb11 := b1.cell 1 _ rfl
        have cb12 := b1.cell 2 _ rfl
        have cb13 := b1.cell 3 _ rfl
        have cb14 := b1.cell 4 _ rfl
        have cb15 := b1.cell 5 _ rfl
        go_wp2_with fail
        clear cba0 cba1 cba2 cba3 cba4 cba5 cbb0 cbb1 cbb2 cbb3 cbb4 cbb5 cb00 cb01 cb02 cb03 cb04 cb05 cb10 cb11 cb12 cb13 cb14 cb15
        refine (nqs_v h1 HA.out).mono ?_
        rintro e w500 ⟨rfl, hb⟩
        replace f0 := f0.below hb
        replace f1 := f1.below hb
        replace f2 := f2.below hb
        replace f3 := f3.below hb
        replace h0 := h0.below hb
        replace h1 := h1.below hb
        replace h2 := h2.below hb
        replace h3 := h3.below hb
        replace b0 := b0.below hb
        replace b1 := b1.below hb
        replace ba := ba.below hb
        replace bb := bb.below hb
        replace H0 := H0.trans (hb.mono H0.size)
        clear hb
        have cba0 := ba.cell 0 _ rfl
        have cba1 := ba.cell 1 _ rfl
        have cba2 := ba.cell 2 _ rfl
        have cba3 := ba.cell 3 _ rfl
        have cba4 := ba.cell 4 _ rfl
        have cba5 := ba.cell 5 _ rfl
        have cbb0 := bb.cell 0 _ rfl
        have cbb1 := bb.cell 1 _ rfl
        have cbb2 := bb.cell 2 _ rfl
        have cbb3 := bb.cell 3 _ rfl
        have cbb4 := bb.cell 4 _ rfl
        have cbb5 := bb.cell 5 _ rfl
        have cb00 := b0.cell 0 _ rfl
        have cb01 := b0.cell 1 _ rfl
        have cb02 := b0.cell 2 _ rfl
        have cb03 := b0.cell 3 _ rfl
        have cb04 := b0.cell 4 _ rfl
        have cb05 := b0.cell 5 _ rfl
        have cb10 := b1.cell 0 _ rfl
        have cb11 := b1.cell 1 _ rfl
        have cb12 := b1.cell 2 _ rfl
        have cb13 := b1.cell 3 _ rfl
        have cb14 := b1.cell 4 _ rfl
        have cb15 := b1.cell 5 _ rfl
        go_wp2_with fail
        clear cba0 cba1 cba2 cba3 cba4 cba5 cbb0 cbb1 cbb2 cbb3 cbb4 cbb5 cb00 cb01 cb02 cb03 cb04 cb05 cb10 cb11 cb12 cb13 cb14 cb15
        refine (HK.out _ H0).mono ?_
        rintro e w501 ⟨rfl, hb⟩
        replace f0 := f0.below hb
        replace f1 := f1.below hb
        replace f2 := f2.below hb
        replace f3 := f3.below hb
        replace h0 := h0.below hb
        replace h1 := h1.below hb
        replace h2 := h2.below hb
        replace h3 := h3.below hb
        replace b0 := b0.below hb
        replace b1 := b1.below hb
        replace ba := ba.below hb
        replace bb := bb.below hb
        replace H0 := H0.trans (hb.mono H0.size)
        clear hb
        have cb00 := b0.cell 0 _ rfl
        have cb01 := b0.cell 1 _ rfl
        have cb02 := b0.cell 2 _ rfl
        have cb03 := b0.cell 3 _ rfl
        have cb04 := b0.cell 4 _ rfl
        have cb05 := b0.cell 5 _ rfl
        have cb10 := b1.cell 0 _ rfl
        have cb11 := b1.cell 1 _ rfl
        have cb12 := b1.cell 2 _ rfl
        have cb13 := b1.cell 3 _ rfl
        have cb14 := b1.cell 4 _ rfl
        have cb15 := b1.cell 5 _ rfl
        go_wp2_with fail
        clear cb00 cb01 cb02 cb03 cb04 cb05 cb10 cb11 cb12 cb13 cb14 cb15
        refine (pangle_v (rq_zero _) (rq_zero _) f0.rq f1.rq (by omega) (by omega) HZ1.out).mono ?_
        rintro e w502 ⟨rfl, hb⟩
        replace f0 := f0.below hb
        replace f1 := f1.below hb
        replace f2 := f2.below hb
        replace f3 := f3.below hb
        replace h0 := h0.below hb
        replace h1 := h1.below hb
        replace h2 := h2.below hb
        replace h3 := h3.below hb
        replace b0 := b0.below hb
        replace b1 := b1.below hb
        replace ba := ba.below hb
        replace bb := bb.below hb
        replace H0 := H0.trans (hb.mono H0.size)
        clear hb
        have cb00 := b0.cell 0 _ rfl
        have cb01 := b0.cell 1 _ rfl
        have cb02 := b0.cell 2 _ rfl
        have cb03 := b0.cell 3 _ rfl
        have cb04 := b0.cell 4 _ rfl
        have cb05 := b0.cell 5 _ rfl
        have cb10 := b1.cell 0 _ rfl
        have cb11 := b1.cell 1 _ rfl
        have cb12 := b1.cell 2 _ rfl
        have cb13 := b1.cell 3 _ rfl
        have cb14 := b1.cell 4 _ rfl
        have cb15 := b1.cell 5 _ rfl
        go_wp2_with fail
        clear cb00 cb01 cb02 cb03 cb04 cb05 cb10 cb11 cb12 cb13 cb14 cb15
        refine (pangle_v (rq_zero _) (rq_zero _) (rq_zero _) (rq_zero _) (by omega) (by omega) HZ2.out).mono ?_
        rintro e w503 ⟨rfl, hb⟩
        replace f0 := f0.below hb
        replace f1 := f1.below hb
        replace f2 := f2.below hb
        replace f3 := f3.below hb
        replace h0 := h0.below hb
        replace h1 := h1.below hb
        replace h2 := h2.below hb
        replace h3 := h3.below hb
        replace b0 := b0.below hb
        replace b1 := b1.below hb
        replace ba := ba.below hb
        replace bb := bb.below hb
        replace H0 := H0.trans (hb.mono H0.size)
        clear hb
        go_wp2_with fail
        go_returns
        exact ⟨rfl, H0⟩
end
end Go.Proofs.YtlpgbflajcfgpaaGreatDoor
