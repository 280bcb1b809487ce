/-
  PointOrders.
-/
import Derived.Test.YtlpgbflajcfgpaaGreatDoorPtR
import Derived.Test.YtlpgbflajcfgpaaGreatDoorPtK
import Derived.Test.YtlpgbflajcfgpaaGreatDoorX1
import Derived.Test.YtlpgbflajcfgpaaGreatDoorPtH
import Derived.Deep.Cut
import Derived.Test.YtlpgbflajcfgpaaGreatDoorE1
import Derived.Test.YtlpgbflajcfgpaaGreatDoorE2
import Derived.Test.YtlpgbflajcfgpaaGreatDoorE3
import Derived.Test.YtlpgbflajcfgpaaGreatDoorE4
namespace Go.Proofs.YtlpgbflajcfgpaaGreatDoor
open Go.RowKit

section
variable {A0 A1 A2 A3 A4 A5 A6 A7 D0 D1 D2 D3 D4 D5 D6 D7 : Option Addr} {n0 n1 n2 n3 n4 n5 n6 n7 c0 c1 c2 c3 c4 c5 c6 c7 m0 m1 m2 m3 m4 m5 m6 m7 e0 e1 e2 e3 e4 e5 e6 e7 : Nat} {s0 s1 s2 s3 s4 s5 s6 s7 : Bool} {w : World}
theorem between_eq (ax ay bx by' px py : Rat) : ((oriQ ax ay bx by' px py == 0) && decide (rsg ((ax - px) * (bx - px) + (ay - py) * (by' - py)) ≤ 0)) = (decide (0 ≤ cmpQ ax ay px py * cmpQ px py bx by') && (oriQ ax ay bx by' px py == 0)) := by
  rcases Decidable.em (oriQ ax ay bx by' px py = 0) with h0 | h0
  · have h1 : rsg ((ax - px) * (by' - py) - (ay - py) * (bx - px)) = 0 := by
      rw [← h0]; unfold oriQ; congr 1; grind
    have h2 := lex_dot (ax - px) (ay - py) (bx - px) (by' - py) h1
    have h3 : cmpQ px py bx by' = -(if rsg (bx - px) = 0 then rsg (by' - py) else rsg (bx - px)) := by
      unfold cmpQ
      rw [show px - bx = -(bx - px) by grind, show py - by' = -(by' - py) by grind, rsg_opp, rsg_opp]
      split <;> split <;> first | rfl | (exfalso; omega)
    have h4 : decide (rsg ((ax - px) * (bx - px) + (ay - py) * (by' - py)) ≤ 0) = decide (0 ≤ (if rsg (ax - px) = 0 then rsg (ay - py) else rsg (ax - px)) * -(if rsg (bx - px) = 0 then rsg (by' - py) else rsg (bx - px))) := decide_eq_decide.2 h2.symm
    rw [h0, h3, show cmpQ ax ay px py = (if rsg (ax - px) = 0 then rsg (ay - py) else rsg (ax - px)) from rfl, h4]
    simp
  · have h1 : (oriQ ax ay bx by' px py == 0) = false := by rw [beq_eq_false_iff_ne]; exact h0
    rw [h1]; simp
set_option maxRecDepth 100000 in
set_option maxHeartbeats 60000000 in
theorem pointorders_any {v : Value} (HI : Ints w v) (htab : Lib.TabIs Tryz.prog w "internal/strconv.uint64pow10" .u64 Lib.pow10Tab) :
    Calls Tryz.prog 5 #[v] w fun e w' => e = .returned (.bool true) ∧ Below w.heap.size w w' := by
  have HK := Lib.hid (fun (W : World) (h : Below w.heap.size w W) => known4_any (Go.Joins.tab_stays (show Tryz.prog.globalNamed "internal/strconv.uint64pow10" = some 5 by kernel_rfl) htab h (Nat.le_refl _)))
  clear htab
  go_enter Tryz.func5, Tryz.ntmps5
  go_wp2_with fail
  refine (new_any HI).mono ?_
  rintro e w1 ⟨rfl, hT, H0, hsz⟩
  have hlt : w.heap.size < w1.heap.size := by omega
  clear hsz HI
  go_wp2_with fail
  refine (rough_v hT hlt).mono ?_
  rintro e w2 ⟨q0, q1, s0, A0, n0, c0, D0, m0, e0, s1, A1, n1, c1, D1, m1, e1, rfl, f0, f1, hT', hg⟩
  replace hlt := Nat.lt_of_lt_of_le hlt hg.size
  replace H0 := H0.grown hg H0.size (by rintro k hk; injection hk with hk; omega)
  clear hT
  have hT := hT'
  clear hT' hg
  go_wp2_with fail
  refine (rough_v hT hlt).mono ?_
  rintro e w3 ⟨q2, q3, s2, A2, n2, c2, D2, m2, e2, s3, A3, n3, c3, D3, m3, e3, rfl, f2, f3, hT', hg⟩
  replace f0 := f0.tape hT hg
  replace f1 := f1.tape hT hg
  replace hlt := Nat.lt_of_lt_of_le hlt hg.size
  replace H0 := H0.grown hg H0.size (by rintro k hk; injection hk with hk; omega)
  clear hT
  have hT := hT'
  clear hT' hg
  go_wp2_with fail
  refine (rough_v hT hlt).mono ?_
  rintro e w4 ⟨q4, q5, s4, A4, n4, c4, D4, m4, e4, s5, A5, n5, c5, D5, m5, e5, rfl, f4, f5, hT', hg⟩
  replace f0 := f0.tape hT hg
  replace f1 := f1.tape hT hg
  replace f2 := f2.tape hT hg
  replace f3 := f3.tape hT hg
  replace hlt := Nat.lt_of_lt_of_le hlt hg.size
  replace H0 := H0.grown hg H0.size (by rintro k hk; injection hk with hk; omega)
  clear hT
  have hT := hT'
  clear hT' hg
  have hl_5 := hlt
  obtain ⟨W5, hW, b0, b1, b2, hbW, hszW5⟩ := boxes3 w4 #[.bool s0, .slice A0 n0 c0, .slice D0 m0 e0, .bool s1, .slice A1 n1 c1, .slice D1 m1 e1] #[.bool s2, .slice A2 n2 c2, .slice D2 m2 e2, .bool s3, .slice A3 n3 c3, .slice D3 m3 e3] #[.bool s4, .slice A4 n4 c4, .slice D4 m4 e4, .bool s5, .slice A5 n5 c5, .slice D5 m5 e5] 29 29 29
  skip
  skip
  replace f0 := f0.below hbW
  replace f1 := f1.below hbW
  replace f2 := f2.below hbW
  replace f3 := f3.below hbW
  replace f4 := f4.below hbW
  replace f5 := f5.below hbW
  replace hT := hT.keep hbW hlt
  replace hlt := Nat.lt_of_lt_of_le hlt hbW.size
  replace H0 := H0.trans (hbW.mono H0.size)
  clear hbW
  have cb00 := b0.cell 0 _ rfl
  have cb01 := b0.cell 1 _ rfl
  have cb02 := b0.cell 2 _ rfl
  have cb03 := b0.cell 3 _ rfl
  have cb04 := b0.cell 4 _ rfl
  have cb05 := b0.cell 5 _ rfl
  have cb10 := b1.cell 0 _ rfl
  have cb11 := b1.cell 1 _ rfl
  have cb12 := b1.cell 2 _ rfl
  have cb13 := b1.cell 3 _ rfl
  have cb14 := b1.cell 4 _ rfl
  have cb15 := b1.cell 5 _ rfl
  have cb20 := b2.cell 0 _ rfl
  have cb21 := b2.cell 1 _ rfl
  have cb22 := b2.cell 2 _ rfl
  have cb23 := b2.cell 3 _ rfl
  have cb24 := b2.cell 4 _ rfl
  have cb25 := b2.cell 5 _ rfl
  go_wp2_with fail
  clear hW
  clear cb00 cb01 cb02 cb03 cb04 cb05 cb10 cb11 cb12 cb13 cb14 cb15 cb20 cb21 cb22 cb23 cb24 cb25
  refine (next_any 3 (by omega) (by omega) hT).mono ?_
  rintro e w6 ⟨r, rfl, hr, hT', hg⟩
  replace f0 := f0.tape hT hg
  replace f1 := f1.tape hT hg
  replace f2 := f2.tape hT hg
  replace f3 := f3.tape hT hg
  replace f4 := f4.tape hT hg
  replace f5 := f5.tape hT hg
  replace b0 := b0.other hg (by omega)
  replace b1 := b1.other hg (by omega)
  replace b2 := b2.other hg (by omega)
  replace hlt := Nat.lt_of_lt_of_le hlt hg.size
  replace H0 := H0.grown hg H0.size (by rintro k hk; injection hk with hk; omega)
  clear hT
  have hT := hT'
  clear hT' hg
  go_upto_if 20 with fail
  have lt0 := b0.lt
  have lt1 := b1.lt
  have lt2 := b2.lt
  go_cut [6] from 7 (fun s_6 wx => ∃ q6 q7 s6 A6 n6 c6 D6 m6 e6 s7 A7 n7 c7 D7 m7 e7, s_6 = .pointer (some ⟨w4.heap.size + 1 + 1, 0, none⟩) ∧ RQ wx s0 (.slice A0 n0 c0) (.slice D0 m0 e0) q0 6 ∧ RQ wx s1 (.slice A1 n1 c1) (.slice D1 m1 e1) q1 6 ∧ RQ wx s2 (.slice A2 n2 c2) (.slice D2 m2 e2) q2 6 ∧ RQ wx s3 (.slice A3 n3 c3) (.slice D3 m3 e3) q3 6 ∧ RQ wx s6 (.slice A6 n6 c6) (.slice D6 m6 e6) q6 26 ∧ RQ wx s7 (.slice A7 n7 c7) (.slice D7 m7 e7) q7 26 ∧ Box wx (w4.heap.size) #[.bool s0, .slice A0 n0 c0, .slice D0 m0 e0, .bool s1, .slice A1 n1 c1, .slice D1 m1 e1] 29 ∧ Box wx (w4.heap.size + 1) #[.bool s2, .slice A2 n2 c2, .slice D2 m2 e2, .bool s3, .slice A3 n3 c3, .slice D3 m3 e3] 29 ∧ Box wx (w4.heap.size + 1 + 1) #[.bool s6, .slice A6 n6 c6, .slice D6 m6 e6, .bool s7, .slice A7 n7 c7, .slice D7 m7 e7] 29 ∧ Below w.heap.size w wx)
  case first =>
    generalize ((r : Int) == 0) = br
    rcases (show br = true ∨ br = false by cases br <;> simp) with rfl | rfl
    · clear f4
      clear f5
      have cb00 := b0.cell 0 _ rfl
      have cb01 := b0.cell 1 _ rfl
      have cb02 := b0.cell 2 _ rfl
      have cb03 := b0.cell 3 _ rfl
      have cb04 := b0.cell 4 _ rfl
      have cb05 := b0.cell 5 _ rfl
      have cb10 := b1.cell 0 _ rfl
      have cb11 := b1.cell 1 _ rfl
      have cb12 := b1.cell 2 _ rfl
      have cb13 := b1.cell 3 _ rfl
      have cb14 := b1.cell 4 _ rfl
      have cb15 := b1.cell 5 _ rfl
      go_wp2_with fail
      clear cb00 cb01 cb02 cb03 cb04 cb05 cb10 cb11 cb12 cb13 cb14 cb15
      have hD := drawn_below w6
      replace f0 := f0.below hD
      replace f1 := f1.below hD
      replace f2 := f2.below hD
      replace f3 := f3.below hD
      replace b0 := b0.below hD
      replace b1 := b1.below hD
      replace b2 := b2.below hD
      replace hT := hT.keep hD hlt
      replace hlt := Nat.lt_of_lt_of_le hlt hD.size
      replace H0 := H0.trans (hD.mono H0.size)
      clear hD
      refine wp_region_noPanic ?_
      refine wp_region_held_drew (S := (fun V => V.cell? ⟨w4.heap.size, 0, none⟩ = some (.bool s0) ∧ V.cell? ⟨w4.heap.size, 1, none⟩ = some (.slice A0 n0 c0) ∧ V.cell? ⟨w4.heap.size, 2, none⟩ = some (.slice D0 m0 e0) ∧ V.cell? ⟨w4.heap.size, 3, none⟩ = some (.bool s1) ∧ V.cell? ⟨w4.heap.size, 4, none⟩ = some (.slice A1 n1 c1) ∧ V.cell? ⟨w4.heap.size, 5, none⟩ = some (.slice D1 m1 e1) ∧ V.cell? ⟨w4.heap.size + 1, 0, none⟩ = some (.bool s2) ∧ V.cell? ⟨w4.heap.size + 1, 1, none⟩ = some (.slice A2 n2 c2) ∧ V.cell? ⟨w4.heap.size + 1, 2, none⟩ = some (.slice D2 m2 e2) ∧ V.cell? ⟨w4.heap.size + 1, 3, none⟩ = some (.bool s3) ∧ V.cell? ⟨w4.heap.size + 1, 4, none⟩ = some (.slice A3 n3 c3) ∧ V.cell? ⟨w4.heap.size + 1, 5, none⟩ = some (.slice D3 m3 e3))) (by kernel_rfl) ⟨b0.cell 0 _ rfl, b0.cell 1 _ rfl, b0.cell 2 _ rfl, b0.cell 3 _ rfl, b0.cell 4 _ rfl, b0.cell 5 _ rfl, b1.cell 0 _ rfl, b1.cell 1 _ rfl, b1.cell 2 _ rfl, b1.cell 3 _ rfl, b1.cell 4 _ rfl, b1.cell 5 _ rfl⟩ (fun hHeld => ?_)
      generalize w6.drew = v7 at H0 hHeld f0 f1 f2 f3 b0 b1 b2 hT hlt ⊢
      refine wpAnyH_take (i := 0) (v := ?_) rfl (by kernel_rfl) (by kernel_rfl) (by kernel_rfl) (fun _ _ _ h => h) (Or.inl ⟨by rfl, ?_⟩) (by assumption) ?_
      rotate_left
      · (intro w hSw; (try dsimp only at hSw); go_simp; (try with_reducible rfl))
      (try simp only [List.getElem_toArray, List.getElem_cons_zero, Act.put, List.setIfInBounds_toArray, List.set_cons_zero, List.set_cons_succ])
      refine wpAnyH_take (i := 2) (v := ?_) rfl (by kernel_rfl) (by kernel_rfl) (by kernel_rfl) (fun _ _ _ h => h) (Or.inl ⟨by rfl, ?_⟩) (by assumption) ?_
      rotate_left
      · (intro w hSw; (try dsimp only at hSw); go_simp; (try with_reducible rfl))
      (try simp only [List.getElem_toArray, List.getElem_cons_succ, List.getElem_cons_zero, Act.put, List.setIfInBounds_toArray, List.set_cons_zero, List.set_cons_succ])
      refine wpAnyH_take (i := 4) (v := ?_) rfl (by kernel_rfl) (by kernel_rfl) (by kernel_rfl) (fun _ _ _ h => h) (Or.inl ⟨by rfl, ?_⟩) (by assumption) ?_
      rotate_left
      · (intro w hSw; (try dsimp only at hSw); go_simp; (try with_reducible rfl))
      (try simp only [List.getElem_toArray, List.getElem_cons_succ, List.getElem_cons_zero, Act.put, List.setIfInBounds_toArray, List.set_cons_zero, List.set_cons_succ])
      refine wpAnyH_take (i := 6) (v := ?_) rfl (by kernel_rfl) (by kernel_rfl) (by kernel_rfl) (fun _ _ _ h => h) (Or.inl ⟨by rfl, ?_⟩) (by assumption) ?_
      rotate_left
      · (intro w hSw; (try dsimp only at hSw); go_simp; (try with_reducible rfl))
      (try simp only [List.getElem_toArray, List.getElem_cons_succ, List.getElem_cons_zero, Act.put, List.setIfInBounds_toArray, List.set_cons_zero, List.set_cons_succ])
      refine wpAnyH_ready (rs := [1]) (by kernel_rfl) (by simp) (AllReadyH.cons (o := _) rfl (fun K hK => ?_) AllReadyH.nil)
      go_simp
      go_at_call 11
      refine (gpt_v f0 f1 (by omega)).mono ?_
      rintro e w8 ⟨s10, A10, n10, c10, D10, m10, e10, s11, A11, n11, c11, D11, m11, e11, rfl, u0, u1, hb⟩
      replace f0 := f0.below hb
      replace f1 := f1.below hb
      replace f2 := f2.below hb
      replace f3 := f3.below hb
      replace b0 := b0.below hb
      replace b1 := b1.below hb
      replace b2 := b2.below hb
      replace hT := hT.keep hb hlt
      replace hlt := Nat.lt_of_lt_of_le hlt hb.size
      replace H0 := H0.trans (hb.mono H0.size)
      clear hb
      go_wp2_with fail
      refine hK.out _ _ ⟨b0.cell 0 _ rfl, b0.cell 1 _ rfl, b0.cell 2 _ rfl, b0.cell 3 _ rfl, b0.cell 4 _ rfl, b0.cell 5 _ rfl, b1.cell 0 _ rfl, b1.cell 1 _ rfl, b1.cell 2 _ rfl, b1.cell 3 _ rfl, b1.cell 4 _ rfl, b1.cell 5 _ rfl⟩ (fun hHeld => ?_)
      clear hK K
      (try simp only [List.getElem_toArray, List.getElem_cons_succ, List.getElem_cons_zero, Act.put, List.setIfInBounds_toArray, List.set_cons_zero, List.set_cons_succ])
      refine wpAnyH_ready (rs := [3]) (by kernel_rfl) (by simp) (AllReadyH.cons (o := _) rfl (fun K hK => ?_) AllReadyH.nil)
      go_simp
      go_at_call 38
      refine (tq_v hT hlt).mono ?_
      rintro e w9 ⟨t, s12, A12, n12, c12, D12, m12, e12, rfl, u2, hT', hg⟩
      replace f0 := f0.tape hT hg
      replace f1 := f1.tape hT hg
      replace f2 := f2.tape hT hg
      replace f3 := f3.tape hT hg
      replace u0 := u0.tape hT hg
      replace u1 := u1.tape hT hg
      replace b0 := b0.other hg (by omega)
      replace b1 := b1.other hg (by omega)
      replace b2 := b2.other hg (by omega)
      replace hlt := Nat.lt_of_lt_of_le hlt hg.size
      replace H0 := H0.grown hg H0.size (by rintro k hk; injection hk with hk; omega)
      clear hT
      have hT := hT'
      clear hT' hg
      clear hT hlt
      go_wp2_with fail
      refine hK.out _ _ ⟨b0.cell 0 _ rfl, b0.cell 1 _ rfl, b0.cell 2 _ rfl, b0.cell 3 _ rfl, b0.cell 4 _ rfl, b0.cell 5 _ rfl, b1.cell 0 _ rfl, b1.cell 1 _ rfl, b1.cell 2 _ rfl, b1.cell 3 _ rfl, b1.cell 4 _ rfl, b1.cell 5 _ rfl⟩ (fun hHeld => ?_)
      clear hK K
      (try simp only [List.getElem_toArray, List.getElem_cons_succ, List.getElem_cons_zero, Act.put, List.setIfInBounds_toArray, List.set_cons_zero, List.set_cons_succ])
      refine wpAnyH_ready (rs := [5]) (by kernel_rfl) (by simp) (AllReadyH.cons (o := _) rfl (fun K hK => ?_) AllReadyH.nil)
      go_simp
      go_at_call 11
      refine (gpt_v f2 f3 (by omega)).mono ?_
      rintro e w10 ⟨s14, A14, n14, c14, D14, m14, e14, s15, A15, n15, c15, D15, m15, e15, rfl, u3, u4, hb⟩
      replace f0 := f0.below hb
      replace f1 := f1.below hb
      replace f2 := f2.below hb
      replace f3 := f3.below hb
      replace u0 := u0.below hb
      replace u1 := u1.below hb
      replace u2 := u2.below hb
      replace b0 := b0.below hb
      replace b1 := b1.below hb
      replace b2 := b2.below hb
      replace H0 := H0.trans (hb.mono H0.size)
      clear hb
      go_wp2_with fail
      refine hK.out _ _ ⟨b0.cell 0 _ rfl, b0.cell 1 _ rfl, b0.cell 2 _ rfl, b0.cell 3 _ rfl, b0.cell 4 _ rfl, b0.cell 5 _ rfl, b1.cell 0 _ rfl, b1.cell 1 _ rfl, b1.cell 2 _ rfl, b1.cell 3 _ rfl, b1.cell 4 _ rfl, b1.cell 5 _ rfl⟩ (fun hHeld => ?_)
      clear hK K
      (try simp only [List.getElem_toArray, List.getElem_cons_succ, List.getElem_cons_zero, Act.put, List.setIfInBounds_toArray, List.set_cons_zero, List.set_cons_succ])
      refine wpAnyH_ready (rs := [7]) (by kernel_rfl) (by simp) (AllReadyH.cons (o := _) rfl (fun K hK => ?_) AllReadyH.nil)
      go_simp
      go_at_call 11
      refine (gpt_v f0 f1 (by omega)).mono ?_
      rintro e w11 ⟨s16, A16, n16, c16, D16, m16, e16, s17, A17, n17, c17, D17, m17, e17, rfl, u5, u6, hb⟩
      replace f0 := f0.below hb
      replace f1 := f1.below hb
      replace f2 := f2.below hb
      replace f3 := f3.below hb
      replace u0 := u0.below hb
      replace u1 := u1.below hb
      replace u2 := u2.below hb
      replace u3 := u3.below hb
      replace u4 := u4.below hb
      replace b0 := b0.below hb
      replace b1 := b1.below hb
      replace b2 := b2.below hb
      replace H0 := H0.trans (hb.mono H0.size)
      clear hb
      go_wp2_with fail
      refine hK.out _ _ ⟨b0.cell 0 _ rfl, b0.cell 1 _ rfl, b0.cell 2 _ rfl, b0.cell 3 _ rfl, b0.cell 4 _ rfl, b0.cell 5 _ rfl, b1.cell 0 _ rfl, b1.cell 1 _ rfl, b1.cell 2 _ rfl, b1.cell 3 _ rfl, b1.cell 4 _ rfl, b1.cell 5 _ rfl⟩ (fun hHeld => ?_)
      clear hK K
      (try simp only [List.getElem_toArray, List.getElem_cons_succ, List.getElem_cons_zero, Act.put, List.setIfInBounds_toArray, List.set_cons_zero, List.set_cons_succ])
      refine wpAnyH_ready (rs := [8]) (by kernel_rfl) (by simp) (AllReadyH.cons (o := _) rfl (fun K hK => ?_) AllReadyH.nil)
      go_simp
      go_at_call 26
      refine (gsub_v u3 u4 u5 u6 (by omega) (by omega)).mono ?_
      rintro e w12 ⟨s18, A18, n18, c18, D18, m18, e18, s19, A19, n19, c19, D19, m19, e19, rfl, u7, u8, hb⟩
      replace f0 := f0.below hb
      replace f1 := f1.below hb
      replace f2 := f2.below hb
      replace f3 := f3.below hb
      replace u0 := u0.below hb
      replace u1 := u1.below hb
      replace u2 := u2.below hb
      replace u3 := u3.below hb
      replace u4 := u4.below hb
      replace u5 := u5.below hb
      replace u6 := u6.below hb
      replace b0 := b0.below hb
      replace b1 := b1.below hb
      replace b2 := b2.below hb
      replace H0 := H0.trans (hb.mono H0.size)
      clear hb
      clear u3
      clear u4
      clear u5
      clear u6
      go_wp2_with fail
      refine hK.out _ _ ⟨b0.cell 0 _ rfl, b0.cell 1 _ rfl, b0.cell 2 _ rfl, b0.cell 3 _ rfl, b0.cell 4 _ rfl, b0.cell 5 _ rfl, b1.cell 0 _ rfl, b1.cell 1 _ rfl, b1.cell 2 _ rfl, b1.cell 3 _ rfl, b1.cell 4 _ rfl, b1.cell 5 _ rfl⟩ (fun hHeld => ?_)
      clear hK K
      (try simp only [List.getElem_toArray, List.getElem_cons_succ, List.getElem_cons_zero, Act.put, List.setIfInBounds_toArray, List.set_cons_zero, List.set_cons_succ])
      refine wpAnyH_ready (rs := [9]) (by kernel_rfl) (by simp) (AllReadyH.cons (o := _) rfl (fun K hK => ?_) AllReadyH.nil)
      go_simp
      go_at_call 23
      refine (gadd_v u0 u1 u2 u7 u8 (by omega) (by omega) (by omega)).mono ?_
      rintro e w13 ⟨s20, A20, n20, c20, D20, m20, e20, s21, A21, n21, c21, D21, m21, e21, rfl, u9, u10, hb⟩
      replace f0 := f0.below hb
      replace f1 := f1.below hb
      replace f2 := f2.below hb
      replace f3 := f3.below hb
      replace u0 := u0.below hb
      replace u1 := u1.below hb
      replace u2 := u2.below hb
      replace u7 := u7.below hb
      replace u8 := u8.below hb
      replace b0 := b0.below hb
      replace b1 := b1.below hb
      replace b2 := b2.below hb
      replace H0 := H0.trans (hb.mono H0.size)
      clear hb
      clear u0
      clear u1
      clear u2
      clear u7
      clear u8
      go_wp2_with fail
      refine hK.out _ _ ⟨b0.cell 0 _ rfl, b0.cell 1 _ rfl, b0.cell 2 _ rfl, b0.cell 3 _ rfl, b0.cell 4 _ rfl, b0.cell 5 _ rfl, b1.cell 0 _ rfl, b1.cell 1 _ rfl, b1.cell 2 _ rfl, b1.cell 3 _ rfl, b1.cell 4 _ rfl, b1.cell 5 _ rfl⟩ (fun hHeld => ?_)
      clear hK K
      (try simp only [List.getElem_toArray, List.getElem_cons_succ, List.getElem_cons_zero, Act.put, List.setIfInBounds_toArray, List.set_cons_zero, List.set_cons_succ])
      refine wpAnyH_ready (rs := [10]) (by kernel_rfl) (by simp) (AllReadyH.cons (o := _) rfl (fun K hK => ?_) AllReadyH.nil)
      go_simp
      go_at_call 37
      refine (gtop_v u9 u10 (by omega)).mono ?_
      rintro e w14 ⟨s6, A6, n6, c6, D6, m6, e6, s7, A7, n7, c7, D7, m7, e7, rfl, g6, g7, hb⟩
      replace f0 := f0.below hb
      replace f1 := f1.below hb
      replace f2 := f2.below hb
      replace f3 := f3.below hb
      replace u9 := u9.below hb
      replace u10 := u10.below hb
      replace b0 := b0.below hb
      replace b1 := b1.below hb
      replace b2 := b2.below hb
      replace H0 := H0.trans (hb.mono H0.size)
      clear hb
      clear u9
      clear u10
      go_wp2_with fail
      refine hK.out _ _ ⟨b0.cell 0 _ rfl, b0.cell 1 _ rfl, b0.cell 2 _ rfl, b0.cell 3 _ rfl, b0.cell 4 _ rfl, b0.cell 5 _ rfl, b1.cell 0 _ rfl, b1.cell 1 _ rfl, b1.cell 2 _ rfl, b1.cell 3 _ rfl, b1.cell 4 _ rfl, b1.cell 5 _ rfl⟩ (fun hHeld => ?_)
      clear hK K
      (try simp only [List.getElem_toArray, List.getElem_cons_succ, List.getElem_cons_zero, Act.put, List.setIfInBounds_toArray, List.set_cons_zero, List.set_cons_succ])
      have cb20 := b2.cell 0 _ rfl
      have yb20 := b2.frozen 0
      have cb21 := b2.cell 1 _ rfl
      have yb21 := b2.frozen 1
      have cb22 := b2.cell 2 _ rfl
      have yb22 := b2.frozen 2
      have cb23 := b2.cell 3 _ rfl
      have yb23 := b2.frozen 3
      have cb24 := b2.cell 4 _ rfl
      have yb24 := b2.frozen 4
      have cb25 := b2.cell 5 _ rfl
      have yb25 := b2.frozen 5
      refine wpAnyH_ready (rs := [11]) (by kernel_rfl) (by simp) (AllReadyH.cons (o := _) rfl (fun K hK => ?_) AllReadyH.nil)
      go_simp
      clear cb20 yb20 cb21 yb21 cb22 yb22 cb23 yb23 cb24 yb24 cb25 yb25
      have hg := only_store6 w14 (w4.heap.size + 1 + 1) (.bool s6) (.slice A6 n6 c6) (.slice D6 m6 e6) (.bool s7) (.slice A7 n7 c7) (.slice D7 m7 e7)
      have hB := b2.stored6 (.bool s6) (.slice A6 n6 c6) (.slice D6 m6 e6) (.bool s7) (.slice A7 n7 c7) (.slice D7 m7 e7)
      generalize hX : ((((((w14.setCell ⟨w4.heap.size + 1 + 1, 0, none⟩ (.bool s6)).setCell ⟨w4.heap.size + 1 + 1, 1, none⟩ (.slice A6 n6 c6)).setCell ⟨w4.heap.size + 1 + 1, 2, none⟩ (.slice D6 m6 e6)).setCell ⟨w4.heap.size + 1 + 1, 3, none⟩ (.bool s7)).setCell ⟨w4.heap.size + 1 + 1, 4, none⟩ (.slice A7 n7 c7)).setCell ⟨w4.heap.size + 1 + 1, 5, none⟩ (.slice D7 m7 e7)) = X15 at hg hB ⊢
      clear hX
      replace f0 := f0.kept b2 (by simp [notInt]) hg
      replace f1 := f1.kept b2 (by simp [notInt]) hg
      replace f2 := f2.kept b2 (by simp [notInt]) hg
      replace f3 := f3.kept b2 (by simp [notInt]) hg
      replace g6 := g6.kept b2 (by simp [notInt]) hg
      replace g7 := g7.kept b2 (by simp [notInt]) hg
      replace b0 := b0.other hg (by omega)
      replace b1 := b1.other hg (by omega)
      replace b2 := hB
      replace H0 := below_only H0 hg (by omega) H0.size
      clear hg hB
      refine hK.out _ _ ⟨b0.cell 0 _ rfl, b0.cell 1 _ rfl, b0.cell 2 _ rfl, b0.cell 3 _ rfl, b0.cell 4 _ rfl, b0.cell 5 _ rfl, b1.cell 0 _ rfl, b1.cell 1 _ rfl, b1.cell 2 _ rfl, b1.cell 3 _ rfl, b1.cell 4 _ rfl, b1.cell 5 _ rfl⟩ (fun hHeld => ?_)
      clear hK K
      (try simp only [List.getElem_toArray, List.getElem_cons_succ, List.getElem_cons_zero, Act.put, List.setIfInBounds_toArray, List.set_cons_zero, List.set_cons_succ])
      refine wpAnyH_done (by kernel_rfl) ?_ _
      refine NoPanic.normal ?_
      go_wp2_with fail
      go_meet
      exact ⟨_, _, s6, A6, n6, c6, D6, m6, e6, s7, A7, n7, c7, D7, m7, e7, rfl, f0, f1, f2, f3, g6.rq.more (by omega), g7.rq.more (by omega), b0, b1, b2, H0⟩
    · go_wp2_with fail
      go_meet
      exact ⟨_, _, s4, A4, n4, c4, D4, m4, e4, s5, A5, n5, c5, D5, m5, e5, rfl, f0, f1, f2, f3, f4.more (by omega), f5.more (by omega), b0, b1, b2, H0⟩
  case rest =>
    clear f0 f1 f2 f3 f4 f5 b0 b1 b2 H0 hT hlt lt0 lt1 lt2
    obtain ⟨q6, q7, s6, A6, n6, c6, D6, m6, e6, s7, A7, n7, c7, D7, m7, e7, rfl, f0, f1, f2, f3, f6, f7, b0, b1, b2, H0⟩ := hcut
    go_wp2_with fail
    have b3 := b2
    clear b2
    go_cut [7, 8, 9] from 10 (fun s_7 s_8 s_9 wx => ∃ g70 g71 g72 s8 A8 n8 c8 D8 m8 e8 s9 A9 n9 c9 D9 m9 e9 s10 A10 n10 c10 D10 m10 e10 s11 A11 n11 c11 D11 m11 e11 s12 A12 n12 c12 D12 m12 e12 s13 A13 n13 c13 D13 m13 e13, s_7 = .pointer (some ⟨g70, 0, none⟩) ∧ s_8 = .pointer (some ⟨g71, 0, none⟩) ∧ s_9 = .pointer (some ⟨g72, 0, none⟩) ∧ PQ wx s8 (.slice A8 n8 c8) (.slice D8 m8 e8) q0 6 ∧ PQ wx s9 (.slice A9 n9 c9) (.slice D9 m9 e9) q1 6 ∧ PQ wx s10 (.slice A10 n10 c10) (.slice D10 m10 e10) q2 6 ∧ PQ wx s11 (.slice A11 n11 c11) (.slice D11 m11 e11) q3 6 ∧ PQ wx s12 (.slice A12 n12 c12) (.slice D12 m12 e12) q6 26 ∧ PQ wx s13 (.slice A13 n13 c13) (.slice D13 m13 e13) q7 26 ∧ Box wx g70 #[.bool s8, .slice A8 n8 c8, .slice D8 m8 e8, .bool s9, .slice A9 n9 c9, .slice D9 m9 e9] 38 ∧ Box wx g71 #[.bool s10, .slice A10 n10 c10, .slice D10 m10 e10, .bool s11, .slice A11 n11 c11, .slice D11 m11 e11] 38 ∧ Box wx g72 #[.bool s12, .slice A12 n12 c12, .slice D12 m12 e12, .bool s13, .slice A13 n13 c13, .slice D13 m13 e13] 38 ∧ Below wc.heap.size wc wx)
    case first =>
      have lcb0_300 := b0.lt
      have lcb1_300 := b1.lt
      have lcb3_300 := b3.lt
      have hG := drawn_below wc
      refine wp_region_noPanic ?_
      refine wp_region_anyd (by kernel_rfl) ?_
      generalize wc.drew = v300 at hG ⊢
      refine wpAny_of_F (S := (fun V => V.cell? ⟨w4.heap.size, 0, none⟩ = some (.bool s0) ∧ V.cell? ⟨w4.heap.size, 1, none⟩ = some (.slice A0 n0 c0) ∧ V.cell? ⟨w4.heap.size, 2, none⟩ = some (.slice D0 m0 e0) ∧ V.cell? ⟨w4.heap.size, 3, none⟩ = some (.bool s1) ∧ V.cell? ⟨w4.heap.size, 4, none⟩ = some (.slice A1 n1 c1) ∧ V.cell? ⟨w4.heap.size, 5, none⟩ = some (.slice D1 m1 e1) ∧ V.cell? ⟨w4.heap.size + 1, 0, none⟩ = some (.bool s2) ∧ V.cell? ⟨w4.heap.size + 1, 1, none⟩ = some (.slice A2 n2 c2) ∧ V.cell? ⟨w4.heap.size + 1, 2, none⟩ = some (.slice D2 m2 e2) ∧ V.cell? ⟨w4.heap.size + 1, 3, none⟩ = some (.bool s3) ∧ V.cell? ⟨w4.heap.size + 1, 4, none⟩ = some (.slice A3 n3 c3) ∧ V.cell? ⟨w4.heap.size + 1, 5, none⟩ = some (.slice D3 m3 e3) ∧ V.cell? ⟨w4.heap.size + 1 + 1, 0, none⟩ = some (.bool s6) ∧ V.cell? ⟨w4.heap.size + 1 + 1, 1, none⟩ = some (.slice A6 n6 c6) ∧ V.cell? ⟨w4.heap.size + 1 + 1, 2, none⟩ = some (.slice D6 m6 e6) ∧ V.cell? ⟨w4.heap.size + 1 + 1, 3, none⟩ = some (.bool s7) ∧ V.cell? ⟨w4.heap.size + 1 + 1, 4, none⟩ = some (.slice A7 n7 c7) ∧ V.cell? ⟨w4.heap.size + 1 + 1, 5, none⟩ = some (.slice D7 m7 e7))) (F := (fun j => j == 9 || j == 10 || j == 11)) _ _ _ _ ?_
      refine wpAnyF_take (i := 0) (v := ?_) (fun j => j == 1 || j == 3 || j == 5 || j == 9 || j == 10 || j == 11) rfl (by kernel_rfl) (by kernel_rfl) (by kernel_rfl) (by kernel_rfl) (fun j hj => by have h6 : 12 ≤ j := hj; simp; omega) (fun _ _ _ h => h) (Or.inl ⟨by rfl, ?_⟩) ⟨(b0.below hG).cell 0 _ rfl, (b0.below hG).cell 1 _ rfl, (b0.below hG).cell 2 _ rfl, (b0.below hG).cell 3 _ rfl, (b0.below hG).cell 4 _ rfl, (b0.below hG).cell 5 _ rfl, (b1.below hG).cell 0 _ rfl, (b1.below hG).cell 1 _ rfl, (b1.below hG).cell 2 _ rfl, (b1.below hG).cell 3 _ rfl, (b1.below hG).cell 4 _ rfl, (b1.below hG).cell 5 _ rfl, (b3.below hG).cell 0 _ rfl, (b3.below hG).cell 1 _ rfl, (b3.below hG).cell 2 _ rfl, (b3.below hG).cell 3 _ rfl, (b3.below hG).cell 4 _ rfl, (b3.below hG).cell 5 _ rfl⟩ ?_
      rotate_left
      · (intro w hSw; (try dsimp only at hSw); go_simp; (try with_reducible rfl))
      (try simp only [List.getElem_toArray, List.getElem_cons_zero, Act.put, List.setIfInBounds_toArray, List.set_cons_zero, List.set_cons_succ])
      refine wpAnyF_take (i := 2) (v := ?_) (fun j => j == 3 || j == 5 || j == 9 || j == 10 || j == 11) rfl (by kernel_rfl) (by kernel_rfl) (by kernel_rfl) (by kernel_rfl) (fun j hj => by have h6 : 12 ≤ j := hj; simp; omega) (fun _ _ _ h => h) (Or.inl ⟨by rfl, ?_⟩) ⟨(b0.below hG).cell 0 _ rfl, (b0.below hG).cell 1 _ rfl, (b0.below hG).cell 2 _ rfl, (b0.below hG).cell 3 _ rfl, (b0.below hG).cell 4 _ rfl, (b0.below hG).cell 5 _ rfl, (b1.below hG).cell 0 _ rfl, (b1.below hG).cell 1 _ rfl, (b1.below hG).cell 2 _ rfl, (b1.below hG).cell 3 _ rfl, (b1.below hG).cell 4 _ rfl, (b1.below hG).cell 5 _ rfl, (b3.below hG).cell 0 _ rfl, (b3.below hG).cell 1 _ rfl, (b3.below hG).cell 2 _ rfl, (b3.below hG).cell 3 _ rfl, (b3.below hG).cell 4 _ rfl, (b3.below hG).cell 5 _ rfl⟩ ?_
      rotate_left
      · (intro w hSw; (try dsimp only at hSw); go_simp; (try with_reducible rfl))
      (try simp only [List.getElem_toArray, List.getElem_cons_succ, List.getElem_cons_zero, Act.put, List.setIfInBounds_toArray, List.set_cons_zero, List.set_cons_succ])
      refine wpAnyF_take (i := 4) (v := ?_) (fun j => j == 5 || j == 9 || j == 10 || j == 11) rfl (by kernel_rfl) (by kernel_rfl) (by kernel_rfl) (by kernel_rfl) (fun j hj => by have h6 : 12 ≤ j := hj; simp; omega) (fun _ _ _ h => h) (Or.inl ⟨by rfl, ?_⟩) ⟨(b0.below hG).cell 0 _ rfl, (b0.below hG).cell 1 _ rfl, (b0.below hG).cell 2 _ rfl, (b0.below hG).cell 3 _ rfl, (b0.below hG).cell 4 _ rfl, (b0.below hG).cell 5 _ rfl, (b1.below hG).cell 0 _ rfl, (b1.below hG).cell 1 _ rfl, (b1.below hG).cell 2 _ rfl, (b1.below hG).cell 3 _ rfl, (b1.below hG).cell 4 _ rfl, (b1.below hG).cell 5 _ rfl, (b3.below hG).cell 0 _ rfl, (b3.below hG).cell 1 _ rfl, (b3.below hG).cell 2 _ rfl, (b3.below hG).cell 3 _ rfl, (b3.below hG).cell 4 _ rfl, (b3.below hG).cell 5 _ rfl⟩ ?_
      rotate_left
      · (intro w hSw; (try dsimp only at hSw); go_simp; (try with_reducible rfl))
      (try simp only [List.getElem_toArray, List.getElem_cons_succ, List.getElem_cons_zero, Act.put, List.setIfInBounds_toArray, List.set_cons_zero, List.set_cons_succ])
      refine wpAnyF_name (n' := 9) (l' := #[true, false, true, false, true, false, false, false, false, false, false, false]) (by kernel_rfl) (by kernel_rfl) (fun A0 hA => ?_)
      refine wpAnyF_phase (rs := [1, 3, 5, 6, 7, 8]) (full := #[true, true, true, true, true, true, true, true, true, false, false, false]) (states := [#[true, false, true, false, true, false, false, false, false, false, false, false], #[true, true, true, false, true, false, false, false, false, false, false, false], #[true, false, true, false, true, false, true, false, false, false, false, false], #[true, false, true, false, true, false, false, true, false, false, false, false], #[true, false, true, false, true, false, false, false, true, false, false, false], #[true, true, true, false, true, false, false, false, true, false, false, false], #[true, false, true, false, true, false, true, false, true, false, false, false], #[true, false, true, false, true, false, false, true, true, false, false, false], #[true, true, true, false, true, false, false, true, true, false, false, false], #[true, false, true, false, true, false, true, true, true, false, false, false], #[true, true, true, false, true, false, true, true, true, false, false, false], #[true, true, true, true, true, false, true, true, true, false, false, false], #[true, true, true, true, true, true, true, true, true, false, false, false], #[true, true, true, true, true, false, false, true, true, false, false, false], #[true, true, true, true, true, true, false, true, true, false, false, false], #[true, true, true, false, true, false, true, false, true, false, false, false], #[true, true, true, true, true, false, true, false, true, false, false, false], #[true, true, true, true, true, true, true, false, true, false, false, false], #[true, true, true, true, true, false, false, false, true, false, false, false], #[true, true, true, true, true, true, false, false, true, false, false, false], #[true, true, true, false, true, false, false, true, false, false, false, false], #[true, false, true, false, true, false, true, true, false, false, false, false], #[true, true, true, false, true, false, true, true, false, false, false, false], #[true, true, true, true, true, false, true, true, false, false, false, false], #[true, true, true, true, true, true, true, true, false, false, false, false], #[true, true, true, true, true, false, false, true, false, false, false, false], #[true, true, true, true, true, true, false, true, false, false, false, false], #[true, true, true, false, true, false, true, false, false, false, false, false], #[true, true, true, true, true, false, true, false, false, false, false, false], #[true, true, true, true, true, true, true, false, false, false, false, false], #[true, true, true, true, true, false, false, false, false, false, false, false], #[true, true, true, true, true, true, false, false, false, false, false, false]]) (k := 3) (I := fun listed a w => ∃ (y1_ y3_ y5_ y6_ y7_ y8_ : Value), a = ((((((A0.put (some 33) y1_).put (some 35) y3_).put (some 37) y5_).put (some 7) y6_).put (some 8) y7_).put (some 9) y8_) ∧ Below wc.heap.size wc w ∧ (listed.getD 1 false = true → ∃ s8 A8 n8 c8 D8 m8 e8 s9 A9 n9 c9 D9 m9 e9, y1_ = .agg #[.bool s8, .slice A8 n8 c8, .slice D8 m8 e8, .bool s9, .slice A9 n9 c9, .slice D9 m9 e9] ∧ PQ w s8 (.slice A8 n8 c8) (.slice D8 m8 e8) q0 6 ∧ PQ w s9 (.slice A9 n9 c9) (.slice D9 m9 e9) q1 6) ∧ (listed.getD 3 false = true → ∃ s10 A10 n10 c10 D10 m10 e10 s11 A11 n11 c11 D11 m11 e11, y3_ = .agg #[.bool s10, .slice A10 n10 c10, .slice D10 m10 e10, .bool s11, .slice A11 n11 c11, .slice D11 m11 e11] ∧ PQ w s10 (.slice A10 n10 c10) (.slice D10 m10 e10) q2 6 ∧ PQ w s11 (.slice A11 n11 c11) (.slice D11 m11 e11) q3 6) ∧ (listed.getD 5 false = true → ∃ s12 A12 n12 c12 D12 m12 e12 s13 A13 n13 c13 D13 m13 e13, y5_ = .agg #[.bool s12, .slice A12 n12 c12, .slice D12 m12 e12, .bool s13, .slice A13 n13 c13, .slice D13 m13 e13] ∧ PQ w s12 (.slice A12 n12 c12) (.slice D12 m12 e12) q6 26 ∧ PQ w s13 (.slice A13 n13 c13) (.slice D13 m13 e13) q7 26) ∧ (listed.getD 6 false = true → ∃ g0_, y6_ = .pointer (some ⟨g0_, 0, none⟩) ∧ Box w g0_ #[.bool false, .slice none 0 0, .slice none 0 0, .bool false, .slice none 0 0, .slice none 0 0] 38 ∧ wc.heap.size ≤ g0_) ∧ (listed.getD 7 false = true → ∃ g1_, y7_ = .pointer (some ⟨g1_, 0, none⟩) ∧ Box w g1_ #[.bool false, .slice none 0 0, .slice none 0 0, .bool false, .slice none 0 0, .slice none 0 0] 38 ∧ wc.heap.size ≤ g1_) ∧ (listed.getD 8 false = true → ∃ g2_, y8_ = .pointer (some ⟨g2_, 0, none⟩) ∧ Box w g2_ #[.bool false, .slice none 0 0, .slice none 0 0, .bool false, .slice none 0 0, .slice none 0 0] 38 ∧ wc.heap.size ≤ g2_) ∧ (listed.getD 6 false = true → listed.getD 7 false = true → y6_ ≠ y7_) ∧ (listed.getD 6 false = true → listed.getD 8 false = true → y6_ ≠ y8_) ∧ (listed.getD 7 false = true → listed.getD 8 false = true → y7_ ≠ y8_)) (by kernel_rfl) (by kernel_rfl) ?_ ?_ _ _ _ _ (by kernel_rfl) (by kernel_rfl) ⟨A0.tmps.getD 33 undef, A0.tmps.getD 35 undef, A0.tmps.getD 37 undef, A0.tmps.getD 7 undef, A0.tmps.getD 8 undef, A0.tmps.getD 9 undef, by subst hA; kernel_rfl, hG, fun h => (by cases h), fun h => (by cases h), fun h => (by cases h), fun h => (by cases h), fun h => (by cases h), fun h => (by cases h), fun h => (by cases h), fun h => (by cases h), fun h => (by cases h)⟩
      · refine (AllStepsF.cons (i := 1) (o := _) rfl rfl ?_ (AllStepsF.cons (i := 3) (o := _) rfl rfl ?_ (AllStepsF.cons (i := 5) (o := _) rfl rfl ?_ (AllStepsF.cons (i := 6) (o := _) rfl rfl ?_ (AllStepsF.cons (i := 7) (o := _) rfl rfl ?_ (AllStepsF.cons (i := 8) (o := _) rfl rfl ?_ AllStepsF.nil))))))
        · rintro listed a wx ⟨y1_, y3_, y5_, y6_, y7_, y8_, rfl, hG, H1_, H3_, H5_, H6_, H7_, H8_, D6_7, D6_8, D7_8⟩ hi K hK
          subst hA
          (try simp only [Act.put, List.setIfInBounds_toArray, List.set_cons_zero, List.set_cons_succ])
          go_simp
          go_at_call 11
          refine (gpt_v (f0.below hG) (f1.below hG) (by omega)).mono ?_
          rintro e X ⟨s8, A8, n8, c8, D8, m8, e8, s9, A9, n9, c9, D9, m9, e9, rfl, h0, h1, hb9⟩
          go_wp2_with fail
          have hG9 := hG.trans (hb9.mono hG.size)
          refine hK.out _ _ ⟨(b0.below hG9).cell 0 _ rfl, (b0.below hG9).cell 1 _ rfl, (b0.below hG9).cell 2 _ rfl, (b0.below hG9).cell 3 _ rfl, (b0.below hG9).cell 4 _ rfl, (b0.below hG9).cell 5 _ rfl, (b1.below hG9).cell 0 _ rfl, (b1.below hG9).cell 1 _ rfl, (b1.below hG9).cell 2 _ rfl, (b1.below hG9).cell 3 _ rfl, (b1.below hG9).cell 4 _ rfl, (b1.below hG9).cell 5 _ rfl, (b3.below hG9).cell 0 _ rfl, (b3.below hG9).cell 1 _ rfl, (b3.below hG9).cell 2 _ rfl, (b3.below hG9).cell 3 _ rfl, (b3.below hG9).cell 4 _ rfl, (b3.below hG9).cell 5 _ rfl⟩ ?_
          clear hK K
          exact ⟨_, y3_, y5_, y6_, y7_, y8_, by kernel_rfl, hG9, fun _ => ⟨s8, A8, n8, c8, D8, m8, e8, s9, A9, n9, c9, D9, m9, e9, rfl, h0, h1⟩, fun h => by obtain ⟨s10, A10, n10, c10, D10, m10, e10, s11, A11, n11, c11, D11, m11, e11, e_, h2', h3'⟩ := H3_ (set_dep (by decide) h); exact ⟨s10, A10, n10, c10, D10, m10, e10, s11, A11, n11, c11, D11, m11, e11, e_, h2'.below hb9, h3'.below hb9⟩, fun h => by obtain ⟨s12, A12, n12, c12, D12, m12, e12, s13, A13, n13, c13, D13, m13, e13, e_, h4', h5'⟩ := H5_ (set_dep (by decide) h); exact ⟨s12, A12, n12, c12, D12, m12, e12, s13, A13, n13, c13, D13, m13, e13, e_, h4'.below hb9, h5'.below hb9⟩, fun h => by obtain ⟨g0_, e_, bx0', hl0'⟩ := H6_ (set_dep (by decide) h); exact ⟨g0_, e_, bx0'.below hb9, hl0'⟩, fun h => by obtain ⟨g1_, e_, bx1', hl1'⟩ := H7_ (set_dep (by decide) h); exact ⟨g1_, e_, bx1'.below hb9, hl1'⟩, fun h => by obtain ⟨g2_, e_, bx2', hl2'⟩ := H8_ (set_dep (by decide) h); exact ⟨g2_, e_, bx2'.below hb9, hl2'⟩, fun h h9 => D6_7 (set_dep (by decide) h) (set_dep (by decide) h9), fun h h9 => D6_8 (set_dep (by decide) h) (set_dep (by decide) h9), fun h h9 => D7_8 (set_dep (by decide) h) (set_dep (by decide) h9)⟩
        · rintro listed a wx ⟨y1_, y3_, y5_, y6_, y7_, y8_, rfl, hG, H1_, H3_, H5_, H6_, H7_, H8_, D6_7, D6_8, D7_8⟩ hi K hK
          subst hA
          (try simp only [Act.put, List.setIfInBounds_toArray, List.set_cons_zero, List.set_cons_succ])
          go_simp
          go_at_call 11
          refine (gpt_v (f2.below hG) (f3.below hG) (by omega)).mono ?_
          rintro e X ⟨s10, A10, n10, c10, D10, m10, e10, s11, A11, n11, c11, D11, m11, e11, rfl, h2, h3, hb9⟩
          go_wp2_with fail
          have hG9 := hG.trans (hb9.mono hG.size)
          refine hK.out _ _ ⟨(b0.below hG9).cell 0 _ rfl, (b0.below hG9).cell 1 _ rfl, (b0.below hG9).cell 2 _ rfl, (b0.below hG9).cell 3 _ rfl, (b0.below hG9).cell 4 _ rfl, (b0.below hG9).cell 5 _ rfl, (b1.below hG9).cell 0 _ rfl, (b1.below hG9).cell 1 _ rfl, (b1.below hG9).cell 2 _ rfl, (b1.below hG9).cell 3 _ rfl, (b1.below hG9).cell 4 _ rfl, (b1.below hG9).cell 5 _ rfl, (b3.below hG9).cell 0 _ rfl, (b3.below hG9).cell 1 _ rfl, (b3.below hG9).cell 2 _ rfl, (b3.below hG9).cell 3 _ rfl, (b3.below hG9).cell 4 _ rfl, (b3.below hG9).cell 5 _ rfl⟩ ?_
          clear hK K
          exact ⟨y1_, _, y5_, y6_, y7_, y8_, by kernel_rfl, hG9, fun h => by obtain ⟨s8, A8, n8, c8, D8, m8, e8, s9, A9, n9, c9, D9, m9, e9, e_, h0', h1'⟩ := H1_ (set_dep (by decide) h); exact ⟨s8, A8, n8, c8, D8, m8, e8, s9, A9, n9, c9, D9, m9, e9, e_, h0'.below hb9, h1'.below hb9⟩, fun _ => ⟨s10, A10, n10, c10, D10, m10, e10, s11, A11, n11, c11, D11, m11, e11, rfl, h2, h3⟩, fun h => by obtain ⟨s12, A12, n12, c12, D12, m12, e12, s13, A13, n13, c13, D13, m13, e13, e_, h4', h5'⟩ := H5_ (set_dep (by decide) h); exact ⟨s12, A12, n12, c12, D12, m12, e12, s13, A13, n13, c13, D13, m13, e13, e_, h4'.below hb9, h5'.below hb9⟩, fun h => by obtain ⟨g0_, e_, bx0', hl0'⟩ := H6_ (set_dep (by decide) h); exact ⟨g0_, e_, bx0'.below hb9, hl0'⟩, fun h => by obtain ⟨g1_, e_, bx1', hl1'⟩ := H7_ (set_dep (by decide) h); exact ⟨g1_, e_, bx1'.below hb9, hl1'⟩, fun h => by obtain ⟨g2_, e_, bx2', hl2'⟩ := H8_ (set_dep (by decide) h); exact ⟨g2_, e_, bx2'.below hb9, hl2'⟩, fun h h9 => D6_7 (set_dep (by decide) h) (set_dep (by decide) h9), fun h h9 => D6_8 (set_dep (by decide) h) (set_dep (by decide) h9), fun h h9 => D7_8 (set_dep (by decide) h) (set_dep (by decide) h9)⟩
        · rintro listed a wx ⟨y1_, y3_, y5_, y6_, y7_, y8_, rfl, hG, H1_, H3_, H5_, H6_, H7_, H8_, D6_7, D6_8, D7_8⟩ hi K hK
          subst hA
          (try simp only [Act.put, List.setIfInBounds_toArray, List.set_cons_zero, List.set_cons_succ])
          go_simp
          go_at_call 11
          refine (gpt_v (f6.below hG) (f7.below hG) (by omega)).mono ?_
          rintro e X ⟨s12, A12, n12, c12, D12, m12, e12, s13, A13, n13, c13, D13, m13, e13, rfl, h4, h5, hb9⟩
          go_wp2_with fail
          have hG9 := hG.trans (hb9.mono hG.size)
          refine hK.out _ _ ⟨(b0.below hG9).cell 0 _ rfl, (b0.below hG9).cell 1 _ rfl, (b0.below hG9).cell 2 _ rfl, (b0.below hG9).cell 3 _ rfl, (b0.below hG9).cell 4 _ rfl, (b0.below hG9).cell 5 _ rfl, (b1.below hG9).cell 0 _ rfl, (b1.below hG9).cell 1 _ rfl, (b1.below hG9).cell 2 _ rfl, (b1.below hG9).cell 3 _ rfl, (b1.below hG9).cell 4 _ rfl, (b1.below hG9).cell 5 _ rfl, (b3.below hG9).cell 0 _ rfl, (b3.below hG9).cell 1 _ rfl, (b3.below hG9).cell 2 _ rfl, (b3.below hG9).cell 3 _ rfl, (b3.below hG9).cell 4 _ rfl, (b3.below hG9).cell 5 _ rfl⟩ ?_
          clear hK K
          exact ⟨y1_, y3_, _, y6_, y7_, y8_, by kernel_rfl, hG9, fun h => by obtain ⟨s8, A8, n8, c8, D8, m8, e8, s9, A9, n9, c9, D9, m9, e9, e_, h0', h1'⟩ := H1_ (set_dep (by decide) h); exact ⟨s8, A8, n8, c8, D8, m8, e8, s9, A9, n9, c9, D9, m9, e9, e_, h0'.below hb9, h1'.below hb9⟩, fun h => by obtain ⟨s10, A10, n10, c10, D10, m10, e10, s11, A11, n11, c11, D11, m11, e11, e_, h2', h3'⟩ := H3_ (set_dep (by decide) h); exact ⟨s10, A10, n10, c10, D10, m10, e10, s11, A11, n11, c11, D11, m11, e11, e_, h2'.below hb9, h3'.below hb9⟩, fun _ => ⟨s12, A12, n12, c12, D12, m12, e12, s13, A13, n13, c13, D13, m13, e13, rfl, h4, h5⟩, fun h => by obtain ⟨g0_, e_, bx0', hl0'⟩ := H6_ (set_dep (by decide) h); exact ⟨g0_, e_, bx0'.below hb9, hl0'⟩, fun h => by obtain ⟨g1_, e_, bx1', hl1'⟩ := H7_ (set_dep (by decide) h); exact ⟨g1_, e_, bx1'.below hb9, hl1'⟩, fun h => by obtain ⟨g2_, e_, bx2', hl2'⟩ := H8_ (set_dep (by decide) h); exact ⟨g2_, e_, bx2'.below hb9, hl2'⟩, fun h h9 => D6_7 (set_dep (by decide) h) (set_dep (by decide) h9), fun h h9 => D6_8 (set_dep (by decide) h) (set_dep (by decide) h9), fun h h9 => D7_8 (set_dep (by decide) h) (set_dep (by decide) h9)⟩
        · rintro listed a wx ⟨y1_, y3_, y5_, y6_, y7_, y8_, rfl, hG, H1_, H3_, H5_, H6_, H7_, H8_, D6_7, D6_8, D7_8⟩ hi K hK
          subst hA
          (try simp only [Act.put, List.setIfInBounds_toArray, List.set_cons_zero, List.set_cons_succ])
          go_simp
          obtain ⟨X, hV, bx0, hb9, sz9⟩ := boxes1 wx #[.bool false, .slice none 0 0, .slice none 0 0, .bool false, .slice none 0 0, .slice none 0 0] 38
          rw [hV]
          clear hV
          have hl0 : wc.heap.size ≤ wx.heap.size := hG.size
          have hG9 := hG.trans (hb9.mono hG.size)
          refine hK.out _ _ ⟨(b0.below hG9).cell 0 _ rfl, (b0.below hG9).cell 1 _ rfl, (b0.below hG9).cell 2 _ rfl, (b0.below hG9).cell 3 _ rfl, (b0.below hG9).cell 4 _ rfl, (b0.below hG9).cell 5 _ rfl, (b1.below hG9).cell 0 _ rfl, (b1.below hG9).cell 1 _ rfl, (b1.below hG9).cell 2 _ rfl, (b1.below hG9).cell 3 _ rfl, (b1.below hG9).cell 4 _ rfl, (b1.below hG9).cell 5 _ rfl, (b3.below hG9).cell 0 _ rfl, (b3.below hG9).cell 1 _ rfl, (b3.below hG9).cell 2 _ rfl, (b3.below hG9).cell 3 _ rfl, (b3.below hG9).cell 4 _ rfl, (b3.below hG9).cell 5 _ rfl⟩ ?_
          clear hK K
          exact ⟨y1_, y3_, y5_, _, y7_, y8_, by kernel_rfl, hG9, fun h => by obtain ⟨s8, A8, n8, c8, D8, m8, e8, s9, A9, n9, c9, D9, m9, e9, e_, h0', h1'⟩ := H1_ (set_dep (by decide) h); exact ⟨s8, A8, n8, c8, D8, m8, e8, s9, A9, n9, c9, D9, m9, e9, e_, h0'.below hb9, h1'.below hb9⟩, fun h => by obtain ⟨s10, A10, n10, c10, D10, m10, e10, s11, A11, n11, c11, D11, m11, e11, e_, h2', h3'⟩ := H3_ (set_dep (by decide) h); exact ⟨s10, A10, n10, c10, D10, m10, e10, s11, A11, n11, c11, D11, m11, e11, e_, h2'.below hb9, h3'.below hb9⟩, fun h => by obtain ⟨s12, A12, n12, c12, D12, m12, e12, s13, A13, n13, c13, D13, m13, e13, e_, h4', h5'⟩ := H5_ (set_dep (by decide) h); exact ⟨s12, A12, n12, c12, D12, m12, e12, s13, A13, n13, c13, D13, m13, e13, e_, h4'.below hb9, h5'.below hb9⟩, fun _ => ⟨_, rfl, bx0, hl0⟩, fun h => by obtain ⟨g1_, e_, bx1', hl1'⟩ := H7_ (set_dep (by decide) h); exact ⟨g1_, e_, bx1'.below hb9, hl1'⟩, fun h => by obtain ⟨g2_, e_, bx2', hl2'⟩ := H8_ (set_dep (by decide) h); exact ⟨g2_, e_, bx2'.below hb9, hl2'⟩, fun _ h => by obtain ⟨g1_, e_, bx_, _⟩ := H7_ (set_dep (by decide) h); rw [e_]; have lx_ := bx_.lt; intro heq; injection heq with heq; injection heq with heq; injection heq with heq; omega, fun _ h => by obtain ⟨g2_, e_, bx_, _⟩ := H8_ (set_dep (by decide) h); rw [e_]; have lx_ := bx_.lt; intro heq; injection heq with heq; injection heq with heq; injection heq with heq; omega, fun h h9 => D7_8 (set_dep (by decide) h) (set_dep (by decide) h9)⟩
        · rintro listed a wx ⟨y1_, y3_, y5_, y6_, y7_, y8_, rfl, hG, H1_, H3_, H5_, H6_, H7_, H8_, D6_7, D6_8, D7_8⟩ hi K hK
          subst hA
          (try simp only [Act.put, List.setIfInBounds_toArray, List.set_cons_zero, List.set_cons_succ])
          go_simp
          obtain ⟨X, hV, bx1, hb9, sz9⟩ := boxes1 wx #[.bool false, .slice none 0 0, .slice none 0 0, .bool false, .slice none 0 0, .slice none 0 0] 38
          rw [hV]
          clear hV
          have hl1 : wc.heap.size ≤ wx.heap.size := hG.size
          have hG9 := hG.trans (hb9.mono hG.size)
          refine hK.out _ _ ⟨(b0.below hG9).cell 0 _ rfl, (b0.below hG9).cell 1 _ rfl, (b0.below hG9).cell 2 _ rfl, (b0.below hG9).cell 3 _ rfl, (b0.below hG9).cell 4 _ rfl, (b0.below hG9).cell 5 _ rfl, (b1.below hG9).cell 0 _ rfl, (b1.below hG9).cell 1 _ rfl, (b1.below hG9).cell 2 _ rfl, (b1.below hG9).cell 3 _ rfl, (b1.below hG9).cell 4 _ rfl, (b1.below hG9).cell 5 _ rfl, (b3.below hG9).cell 0 _ rfl, (b3.below hG9).cell 1 _ rfl, (b3.below hG9).cell 2 _ rfl, (b3.below hG9).cell 3 _ rfl, (b3.below hG9).cell 4 _ rfl, (b3.below hG9).cell 5 _ rfl⟩ ?_
          clear hK K
          exact ⟨y1_, y3_, y5_, y6_, _, y8_, by kernel_rfl, hG9, fun h => by obtain ⟨s8, A8, n8, c8, D8, m8, e8, s9, A9, n9, c9, D9, m9, e9, e_, h0', h1'⟩ := H1_ (set_dep (by decide) h); exact ⟨s8, A8, n8, c8, D8, m8, e8, s9, A9, n9, c9, D9, m9, e9, e_, h0'.below hb9, h1'.below hb9⟩, fun h => by obtain ⟨s10, A10, n10, c10, D10, m10, e10, s11, A11, n11, c11, D11, m11, e11, e_, h2', h3'⟩ := H3_ (set_dep (by decide) h); exact ⟨s10, A10, n10, c10, D10, m10, e10, s11, A11, n11, c11, D11, m11, e11, e_, h2'.below hb9, h3'.below hb9⟩, fun h => by obtain ⟨s12, A12, n12, c12, D12, m12, e12, s13, A13, n13, c13, D13, m13, e13, e_, h4', h5'⟩ := H5_ (set_dep (by decide) h); exact ⟨s12, A12, n12, c12, D12, m12, e12, s13, A13, n13, c13, D13, m13, e13, e_, h4'.below hb9, h5'.below hb9⟩, fun h => by obtain ⟨g0_, e_, bx0', hl0'⟩ := H6_ (set_dep (by decide) h); exact ⟨g0_, e_, bx0'.below hb9, hl0'⟩, fun _ => ⟨_, rfl, bx1, hl1⟩, fun h => by obtain ⟨g2_, e_, bx2', hl2'⟩ := H8_ (set_dep (by decide) h); exact ⟨g2_, e_, bx2'.below hb9, hl2'⟩, fun h _ => by obtain ⟨g0_, e_, bx_, _⟩ := H6_ (set_dep (by decide) h); rw [e_]; have lx_ := bx_.lt; intro heq; injection heq with heq; injection heq with heq; injection heq with heq; omega, fun h h9 => D6_8 (set_dep (by decide) h) (set_dep (by decide) h9), fun _ h => by obtain ⟨g2_, e_, bx_, _⟩ := H8_ (set_dep (by decide) h); rw [e_]; have lx_ := bx_.lt; intro heq; injection heq with heq; injection heq with heq; injection heq with heq; omega⟩
        · rintro listed a wx ⟨y1_, y3_, y5_, y6_, y7_, y8_, rfl, hG, H1_, H3_, H5_, H6_, H7_, H8_, D6_7, D6_8, D7_8⟩ hi K hK
          subst hA
          (try simp only [Act.put, List.setIfInBounds_toArray, List.set_cons_zero, List.set_cons_succ])
          go_simp
          obtain ⟨X, hV, bx2, hb9, sz9⟩ := boxes1 wx #[.bool false, .slice none 0 0, .slice none 0 0, .bool false, .slice none 0 0, .slice none 0 0] 38
          rw [hV]
          clear hV
          have hl2 : wc.heap.size ≤ wx.heap.size := hG.size
          have hG9 := hG.trans (hb9.mono hG.size)
          refine hK.out _ _ ⟨(b0.below hG9).cell 0 _ rfl, (b0.below hG9).cell 1 _ rfl, (b0.below hG9).cell 2 _ rfl, (b0.below hG9).cell 3 _ rfl, (b0.below hG9).cell 4 _ rfl, (b0.below hG9).cell 5 _ rfl, (b1.below hG9).cell 0 _ rfl, (b1.below hG9).cell 1 _ rfl, (b1.below hG9).cell 2 _ rfl, (b1.below hG9).cell 3 _ rfl, (b1.below hG9).cell 4 _ rfl, (b1.below hG9).cell 5 _ rfl, (b3.below hG9).cell 0 _ rfl, (b3.below hG9).cell 1 _ rfl, (b3.below hG9).cell 2 _ rfl, (b3.below hG9).cell 3 _ rfl, (b3.below hG9).cell 4 _ rfl, (b3.below hG9).cell 5 _ rfl⟩ ?_
          clear hK K
          exact ⟨y1_, y3_, y5_, y6_, y7_, _, by kernel_rfl, hG9, fun h => by obtain ⟨s8, A8, n8, c8, D8, m8, e8, s9, A9, n9, c9, D9, m9, e9, e_, h0', h1'⟩ := H1_ (set_dep (by decide) h); exact ⟨s8, A8, n8, c8, D8, m8, e8, s9, A9, n9, c9, D9, m9, e9, e_, h0'.below hb9, h1'.below hb9⟩, fun h => by obtain ⟨s10, A10, n10, c10, D10, m10, e10, s11, A11, n11, c11, D11, m11, e11, e_, h2', h3'⟩ := H3_ (set_dep (by decide) h); exact ⟨s10, A10, n10, c10, D10, m10, e10, s11, A11, n11, c11, D11, m11, e11, e_, h2'.below hb9, h3'.below hb9⟩, fun h => by obtain ⟨s12, A12, n12, c12, D12, m12, e12, s13, A13, n13, c13, D13, m13, e13, e_, h4', h5'⟩ := H5_ (set_dep (by decide) h); exact ⟨s12, A12, n12, c12, D12, m12, e12, s13, A13, n13, c13, D13, m13, e13, e_, h4'.below hb9, h5'.below hb9⟩, fun h => by obtain ⟨g0_, e_, bx0', hl0'⟩ := H6_ (set_dep (by decide) h); exact ⟨g0_, e_, bx0'.below hb9, hl0'⟩, fun h => by obtain ⟨g1_, e_, bx1', hl1'⟩ := H7_ (set_dep (by decide) h); exact ⟨g1_, e_, bx1'.below hb9, hl1'⟩, fun _ => ⟨_, rfl, bx2, hl2⟩, fun h h9 => D6_7 (set_dep (by decide) h) (set_dep (by decide) h9), fun h _ => by obtain ⟨g0_, e_, bx_, _⟩ := H6_ (set_dep (by decide) h); rw [e_]; have lx_ := bx_.lt; intro heq; injection heq with heq; injection heq with heq; injection heq with heq; omega, fun h _ => by obtain ⟨g1_, e_, bx_, _⟩ := H7_ (set_dep (by decide) h); rw [e_]; have lx_ := bx_.lt; intro heq; injection heq with heq; injection heq with heq; injection heq with heq; omega⟩
      · rintro a wf ⟨y1_, y3_, y5_, y6_, y7_, y8_, rfl, hG, H1_, H3_, H5_, H6_, H7_, H8_, D6_7, D6_8, D7_8⟩
        have d6_7 := D6_7 rfl rfl
        have d6_8 := D6_8 rfl rfl
        have d7_8 := D7_8 rfl rfl
        obtain ⟨s8, A8, n8, c8, D8, m8, e8, s9, A9, n9, c9, D9, m9, e9, rfl, h0, h1⟩ := H1_ rfl
        obtain ⟨s10, A10, n10, c10, D10, m10, e10, s11, A11, n11, c11, D11, m11, e11, rfl, h2, h3⟩ := H3_ rfl
        obtain ⟨s12, A12, n12, c12, D12, m12, e12, s13, A13, n13, c13, D13, m13, e13, rfl, h4, h5⟩ := H5_ rfl
        obtain ⟨g0_, rfl, bx0, hl0⟩ := H6_ rfl
        obtain ⟨g1_, rfl, bx1, hl1⟩ := H7_ rfl
        obtain ⟨g2_, rfl, bx2, hl2⟩ := H8_ rfl
        clear D6_7 D6_8 D7_8
        subst hA
        (try simp only [Act.put, List.setIfInBounds_toArray, List.set_cons_zero, List.set_cons_succ])
        have hne01 : g0_ ≠ g1_ := fun h => d6_7 (by rw [h])
        clear d6_7
        have hne02 : g0_ ≠ g2_ := fun h => d6_8 (by rw [h])
        clear d6_8
        have hne12 : g1_ ≠ g2_ := fun h => d7_8 (by rw [h])
        clear d7_8
        have H0 := hG
        have cbx00 := bx0.cell 0 _ rfl
        have ybx00 := bx0.frozen 0
        have cbx01 := bx0.cell 1 _ rfl
        have ybx01 := bx0.frozen 1
        have cbx02 := bx0.cell 2 _ rfl
        have ybx02 := bx0.frozen 2
        have cbx03 := bx0.cell 3 _ rfl
        have ybx03 := bx0.frozen 3
        have cbx04 := bx0.cell 4 _ rfl
        have ybx04 := bx0.frozen 4
        have cbx05 := bx0.cell 5 _ rfl
        have ybx05 := bx0.frozen 5
        refine wpAnyF_last (i := 9) (by kernel_rfl) rfl rfl (fun K hK => ?_)
        go_simp
        refine hK.out _ _ ?_
        clear hK K
        (try simp only [List.setIfInBounds_toArray, List.set_cons_zero, List.set_cons_succ])
        clear cbx00 ybx00 cbx01 ybx01 cbx02 ybx02 cbx03 ybx03 cbx04 ybx04 cbx05 ybx05
        have hg := only_store6 wf (g0_) (.bool s8) (.slice A8 n8 c8) (.slice D8 m8 e8) (.bool s9) (.slice A9 n9 c9) (.slice D9 m9 e9)
        have hB := bx0.stored6 (.bool s8) (.slice A8 n8 c8) (.slice D8 m8 e8) (.bool s9) (.slice A9 n9 c9) (.slice D9 m9 e9)
        generalize hX : ((((((wf.setCell ⟨g0_, 0, none⟩ (.bool s8)).setCell ⟨g0_, 1, none⟩ (.slice A8 n8 c8)).setCell ⟨g0_, 2, none⟩ (.slice D8 m8 e8)).setCell ⟨g0_, 3, none⟩ (.bool s9)).setCell ⟨g0_, 4, none⟩ (.slice A9 n9 c9)).setCell ⟨g0_, 5, none⟩ (.slice D9 m9 e9)) = X351 at hg hB ⊢
        clear hX
        replace h0 := h0.kept bx0 (by simp [notInt]) hg
        replace h1 := h1.kept bx0 (by simp [notInt]) hg
        replace h2 := h2.kept bx0 (by simp [notInt]) hg
        replace h3 := h3.kept bx0 (by simp [notInt]) hg
        replace h4 := h4.kept bx0 (by simp [notInt]) hg
        replace h5 := h5.kept bx0 (by simp [notInt]) hg
        replace bx1 := bx1.other hg (by omega)
        replace bx2 := bx2.other hg (by omega)
        replace bx0 := hB
        replace H0 := below_only H0 hg (by omega) H0.size
        clear hg hB
        have cbx10 := bx1.cell 0 _ rfl
        have ybx10 := bx1.frozen 0
        have cbx11 := bx1.cell 1 _ rfl
        have ybx11 := bx1.frozen 1
        have cbx12 := bx1.cell 2 _ rfl
        have ybx12 := bx1.frozen 2
        have cbx13 := bx1.cell 3 _ rfl
        have ybx13 := bx1.frozen 3
        have cbx14 := bx1.cell 4 _ rfl
        have ybx14 := bx1.frozen 4
        have cbx15 := bx1.cell 5 _ rfl
        have ybx15 := bx1.frozen 5
        refine wpAny_one (i := 10) (by kernel_rfl) rfl (fun K hK => ?_)
        go_simp
        refine hK.out _ _ ?_
        clear hK K
        (try simp only [List.setIfInBounds_toArray, List.set_cons_zero, List.set_cons_succ])
        clear cbx10 ybx10 cbx11 ybx11 cbx12 ybx12 cbx13 ybx13 cbx14 ybx14 cbx15 ybx15
        have hg := only_store6 X351 (g1_) (.bool s10) (.slice A10 n10 c10) (.slice D10 m10 e10) (.bool s11) (.slice A11 n11 c11) (.slice D11 m11 e11)
        have hB := bx1.stored6 (.bool s10) (.slice A10 n10 c10) (.slice D10 m10 e10) (.bool s11) (.slice A11 n11 c11) (.slice D11 m11 e11)
        generalize hX : ((((((X351.setCell ⟨g1_, 0, none⟩ (.bool s10)).setCell ⟨g1_, 1, none⟩ (.slice A10 n10 c10)).setCell ⟨g1_, 2, none⟩ (.slice D10 m10 e10)).setCell ⟨g1_, 3, none⟩ (.bool s11)).setCell ⟨g1_, 4, none⟩ (.slice A11 n11 c11)).setCell ⟨g1_, 5, none⟩ (.slice D11 m11 e11)) = X352 at hg hB ⊢
        clear hX
        replace h0 := h0.kept bx1 (by simp [notInt]) hg
        replace h1 := h1.kept bx1 (by simp [notInt]) hg
        replace h2 := h2.kept bx1 (by simp [notInt]) hg
        replace h3 := h3.kept bx1 (by simp [notInt]) hg
        replace h4 := h4.kept bx1 (by simp [notInt]) hg
        replace h5 := h5.kept bx1 (by simp [notInt]) hg
        replace bx0 := bx0.other hg (by omega)
        replace bx2 := bx2.other hg (by omega)
        replace bx1 := hB
        replace H0 := below_only H0 hg (by omega) H0.size
        clear hg hB
        have cbx20 := bx2.cell 0 _ rfl
        have ybx20 := bx2.frozen 0
        have cbx21 := bx2.cell 1 _ rfl
        have ybx21 := bx2.frozen 1
        have cbx22 := bx2.cell 2 _ rfl
        have ybx22 := bx2.frozen 2
        have cbx23 := bx2.cell 3 _ rfl
        have ybx23 := bx2.frozen 3
        have cbx24 := bx2.cell 4 _ rfl
        have ybx24 := bx2.frozen 4
        have cbx25 := bx2.cell 5 _ rfl
        have ybx25 := bx2.frozen 5
        refine wpAny_one (i := 11) (by kernel_rfl) rfl (fun K hK => ?_)
        go_simp
        refine hK.out _ _ ?_
        clear hK K
        (try simp only [List.setIfInBounds_toArray, List.set_cons_zero, List.set_cons_succ])
        clear cbx20 ybx20 cbx21 ybx21 cbx22 ybx22 cbx23 ybx23 cbx24 ybx24 cbx25 ybx25
        have hg := only_store6 X352 (g2_) (.bool s12) (.slice A12 n12 c12) (.slice D12 m12 e12) (.bool s13) (.slice A13 n13 c13) (.slice D13 m13 e13)
        have hB := bx2.stored6 (.bool s12) (.slice A12 n12 c12) (.slice D12 m12 e12) (.bool s13) (.slice A13 n13 c13) (.slice D13 m13 e13)
        generalize hX : ((((((X352.setCell ⟨g2_, 0, none⟩ (.bool s12)).setCell ⟨g2_, 1, none⟩ (.slice A12 n12 c12)).setCell ⟨g2_, 2, none⟩ (.slice D12 m12 e12)).setCell ⟨g2_, 3, none⟩ (.bool s13)).setCell ⟨g2_, 4, none⟩ (.slice A13 n13 c13)).setCell ⟨g2_, 5, none⟩ (.slice D13 m13 e13)) = X353 at hg hB ⊢
        clear hX
        replace h0 := h0.kept bx2 (by simp [notInt]) hg
        replace h1 := h1.kept bx2 (by simp [notInt]) hg
        replace h2 := h2.kept bx2 (by simp [notInt]) hg
        replace h3 := h3.kept bx2 (by simp [notInt]) hg
        replace h4 := h4.kept bx2 (by simp [notInt]) hg
        replace h5 := h5.kept bx2 (by simp [notInt]) hg
        replace bx0 := bx0.other hg (by omega)
        replace bx1 := bx1.other hg (by omega)
        replace bx2 := hB
        replace H0 := below_only H0 hg (by omega) H0.size
        clear hg hB
        refine wpAny_done (by kernel_rfl) ?_ _
        refine NoPanic.normal ?_
        go_wp2_with fail
        go_meet
        exact ⟨g0_, g1_, g2_, s8, A8, n8, c8, D8, m8, e8, s9, A9, n9, c9, D9, m9, e9, s10, A10, n10, c10, D10, m10, e10, s11, A11, n11, c11, D11, m11, e11, s12, A12, n12, c12, D12, m12, e12, s13, A13, n13, c13, D13, m13, e13, rfl, rfl, rfl, h0, h1, h2, h3, h4, h5, bx0, bx1, bx2, H0⟩
    case rest =>
      obtain ⟨g70, g71, g72, s8, A8, n8, c8, D8, m8, e8, s9, A9, n9, c9, D9, m9, e9, s10, A10, n10, c10, D10, m10, e10, s11, A11, n11, c11, D11, m11, e11, s12, A12, n12, c12, D12, m12, e12, s13, A13, n13, c13, D13, m13, e13, rfl, rfl, rfl, h0, h1, h2, h3, h4, h5, ba, bb, bc, hG⟩ := hcut
      replace f0 := f0.below hG
      replace f1 := f1.below hG
      replace f2 := f2.below hG
      replace f3 := f3.below hG
      replace f6 := f6.below hG
      replace f7 := f7.below hG
      replace b0 := b0.below hG
      replace b1 := b1.below hG
      replace b3 := b3.below hG
      replace H0 := H0.trans (hG.mono H0.size)
      clear hG
      go_wp2_with fail
      obtain ⟨kc, hkc⟩ : ∃ k, cmpQ q0 q1 q2 q3 = k := ⟨_, rfl⟩
      have Hkc := Lib.hid hkc
      clear hkc
      obtain ⟨ka, hka⟩ : ∃ k, angQ q0 q1 q2 q3 = k := ⟨_, rfl⟩
      have Hka := Lib.hid hka
      clear hka
      obtain ⟨b9, hb9⟩ : ∃ k, (decide (0 ≤ cmpQ q0 q1 q6 q7 * cmpQ q6 q7 q2 q3) && (oriQ q0 q1 q2 q3 q6 q7 == 0)) = k := ⟨_, rfl⟩
      have HB9 := Lib.hid hb9
      have HB8 := Lib.hid ((between_eq q0 q1 q2 q3 q6 q7).trans hb9)
      clear hb9
      have ekc : ((kc : Int) == kc) = true := by simp
      have eka : ((ka : Int) == ka) = true := by simp
      have eb9 : ((b9 : Bool) == b9) = true := by simp
      have hD := drawn_below wc
      replace f0 := f0.below hD
      replace f1 := f1.below hD
      replace f2 := f2.below hD
      replace f3 := f3.below hD
      replace f6 := f6.below hD
      replace f7 := f7.below hD
      replace h0 := h0.below hD
      replace h1 := h1.below hD
      replace h2 := h2.below hD
      replace h3 := h3.below hD
      replace h4 := h4.below hD
      replace h5 := h5.below hD
      replace b0 := b0.below hD
      replace b1 := b1.below hD
      replace b3 := b3.below hD
      replace ba := ba.below hD
      replace bb := bb.below hD
      replace bc := bc.below hD
      replace H0 := H0.trans (hD.mono H0.size)
      clear hD
      refine wp_region_noPanic ?_
      refine wp_region_held_drew (S := (fun V => V.cell? ⟨w4.heap.size, 0, none⟩ = some (.bool s0) ∧ V.cell? ⟨w4.heap.size, 1, none⟩ = some (.slice A0 n0 c0) ∧ V.cell? ⟨w4.heap.size, 2, none⟩ = some (.slice D0 m0 e0) ∧ V.cell? ⟨w4.heap.size, 3, none⟩ = some (.bool s1) ∧ V.cell? ⟨w4.heap.size, 4, none⟩ = some (.slice A1 n1 c1) ∧ V.cell? ⟨w4.heap.size, 5, none⟩ = some (.slice D1 m1 e1) ∧ V.cell? ⟨w4.heap.size + 1, 0, none⟩ = some (.bool s2) ∧ V.cell? ⟨w4.heap.size + 1, 1, none⟩ = some (.slice A2 n2 c2) ∧ V.cell? ⟨w4.heap.size + 1, 2, none⟩ = some (.slice D2 m2 e2) ∧ V.cell? ⟨w4.heap.size + 1, 3, none⟩ = some (.bool s3) ∧ V.cell? ⟨w4.heap.size + 1, 4, none⟩ = some (.slice A3 n3 c3) ∧ V.cell? ⟨w4.heap.size + 1, 5, none⟩ = some (.slice D3 m3 e3) ∧ V.cell? ⟨w4.heap.size + 1 + 1, 0, none⟩ = some (.bool s6) ∧ V.cell? ⟨w4.heap.size + 1 + 1, 1, none⟩ = some (.slice A6 n6 c6) ∧ V.cell? ⟨w4.heap.size + 1 + 1, 2, none⟩ = some (.slice D6 m6 e6) ∧ V.cell? ⟨w4.heap.size + 1 + 1, 3, none⟩ = some (.bool s7) ∧ V.cell? ⟨w4.heap.size + 1 + 1, 4, none⟩ = some (.slice A7 n7 c7) ∧ V.cell? ⟨w4.heap.size + 1 + 1, 5, none⟩ = some (.slice D7 m7 e7) ∧ V.cell? ⟨g70, 0, none⟩ = some (.bool s8) ∧ V.cell? ⟨g70, 1, none⟩ = some (.slice A8 n8 c8) ∧ V.cell? ⟨g70, 2, none⟩ = some (.slice D8 m8 e8) ∧ V.cell? ⟨g70, 3, none⟩ = some (.bool s9) ∧ V.cell? ⟨g70, 4, none⟩ = some (.slice A9 n9 c9) ∧ V.cell? ⟨g70, 5, none⟩ = some (.slice D9 m9 e9) ∧ V.cell? ⟨g71, 0, none⟩ = some (.bool s10) ∧ V.cell? ⟨g71, 1, none⟩ = some (.slice A10 n10 c10) ∧ V.cell? ⟨g71, 2, none⟩ = some (.slice D10 m10 e10) ∧ V.cell? ⟨g71, 3, none⟩ = some (.bool s11) ∧ V.cell? ⟨g71, 4, none⟩ = some (.slice A11 n11 c11) ∧ V.cell? ⟨g71, 5, none⟩ = some (.slice D11 m11 e11) ∧ V.cell? ⟨g72, 0, none⟩ = some (.bool s12) ∧ V.cell? ⟨g72, 1, none⟩ = some (.slice A12 n12 c12) ∧ V.cell? ⟨g72, 2, none⟩ = some (.slice D12 m12 e12) ∧ V.cell? ⟨g72, 3, none⟩ = some (.bool s13) ∧ V.cell? ⟨g72, 4, none⟩ = some (.slice A13 n13 c13) ∧ V.cell? ⟨g72, 5, none⟩ = some (.slice D13 m13 e13))) (by kernel_rfl) ⟨b0.cell 0 _ rfl, b0.cell 1 _ rfl, b0.cell 2 _ rfl, b0.cell 3 _ rfl, b0.cell 4 _ rfl, b0.cell 5 _ rfl, b1.cell 0 _ rfl, b1.cell 1 _ rfl, b1.cell 2 _ rfl, b1.cell 3 _ rfl, b1.cell 4 _ rfl, b1.cell 5 _ rfl, b3.cell 0 _ rfl, b3.cell 1 _ rfl, b3.cell 2 _ rfl, b3.cell 3 _ rfl, b3.cell 4 _ rfl, b3.cell 5 _ rfl, ba.cell 0 _ rfl, ba.cell 1 _ rfl, ba.cell 2 _ rfl, ba.cell 3 _ rfl, ba.cell 4 _ rfl, ba.cell 5 _ rfl, bb.cell 0 _ rfl, bb.cell 1 _ rfl, bb.cell 2 _ rfl, bb.cell 3 _ rfl, bb.cell 4 _ rfl, bb.cell 5 _ rfl, bc.cell 0 _ rfl, bc.cell 1 _ rfl, bc.cell 2 _ rfl, bc.cell 3 _ rfl, bc.cell 4 _ rfl, bc.cell 5 _ rfl⟩ (fun hHeld => ?_)
      generalize wc.drew = v800 at H0 hHeld f0 f1 f2 f3 f6 f7 h0 h1 h2 h3 h4 h5 b0 b1 b3 ba bb bc ⊢
      refine wpAnyH_ready (rs := [0]) (by kernel_rfl) (by simp) (AllReadyH.cons (o := _) rfl (fun K hK => ?_) AllReadyH.nil)
      go_simp
      go_at_call 10
      refine (HK.out _ H0).mono ?_
      rintro e w801 ⟨rfl, hb⟩
      replace f0 := f0.below hb
      replace f1 := f1.below hb
      replace f2 := f2.below hb
      replace f3 := f3.below hb
      replace f6 := f6.below hb
      replace f7 := f7.below hb
      replace h0 := h0.below hb
      replace h1 := h1.below hb
      replace h2 := h2.below hb
      replace h3 := h3.below hb
      replace h4 := h4.below hb
      replace h5 := h5.below hb
      replace b0 := b0.below hb
      replace b1 := b1.below hb
      replace b3 := b3.below hb
      replace ba := ba.below hb
      replace bb := bb.below hb
      replace bc := bc.below hb
      replace H0 := H0.trans (hb.mono H0.size)
      clear hb
      go_wp2_with fail
      refine hK.out _ _ ⟨b0.cell 0 _ rfl, b0.cell 1 _ rfl, b0.cell 2 _ rfl, b0.cell 3 _ rfl, b0.cell 4 _ rfl, b0.cell 5 _ rfl, b1.cell 0 _ rfl, b1.cell 1 _ rfl, b1.cell 2 _ rfl, b1.cell 3 _ rfl, b1.cell 4 _ rfl, b1.cell 5 _ rfl, b3.cell 0 _ rfl, b3.cell 1 _ rfl, b3.cell 2 _ rfl, b3.cell 3 _ rfl, b3.cell 4 _ rfl, b3.cell 5 _ rfl, ba.cell 0 _ rfl, ba.cell 1 _ rfl, ba.cell 2 _ rfl, ba.cell 3 _ rfl, ba.cell 4 _ rfl, ba.cell 5 _ rfl, bb.cell 0 _ rfl, bb.cell 1 _ rfl, bb.cell 2 _ rfl, bb.cell 3 _ rfl, bb.cell 4 _ rfl, bb.cell 5 _ rfl, bc.cell 0 _ rfl, bc.cell 1 _ rfl, bc.cell 2 _ rfl, bc.cell 3 _ rfl, bc.cell 4 _ rfl, bc.cell 5 _ rfl⟩ (fun hHeld => ?_)
      clear hK K
      (try simp only [List.getElem_toArray, List.getElem_cons_succ, List.getElem_cons_zero, Act.put, List.setIfInBounds_toArray, List.set_cons_zero, List.set_cons_succ])
      refine wpAnyH_take (i := 1) (v := ?_) rfl (by kernel_rfl) (by kernel_rfl) (by kernel_rfl) (fun _ _ _ h => h) (Or.inl ⟨by rfl, ?_⟩) (by assumption) ?_
      rotate_left
      · (intro w hSw; (try dsimp only at hSw); go_simp; (try with_reducible rfl))
      (try simp only [List.getElem_toArray, List.getElem_cons_succ, List.getElem_cons_zero, Act.put, List.setIfInBounds_toArray, List.set_cons_zero, List.set_cons_succ])
      refine wpAnyH_take (i := 2) (v := ?_) rfl (by kernel_rfl) (by kernel_rfl) (by kernel_rfl) (fun _ _ _ h => h) (Or.inl ⟨by rfl, ?_⟩) (by assumption) ?_
      rotate_left
      · (intro w hSw; (try dsimp only at hSw); go_simp; (try with_reducible rfl))
      (try simp only [List.getElem_toArray, List.getElem_cons_succ, List.getElem_cons_zero, Act.put, List.setIfInBounds_toArray, List.set_cons_zero, List.set_cons_succ])
      refine wpAnyH_take (i := 3) (v := ?_) rfl (by kernel_rfl) (by kernel_rfl) (by kernel_rfl) (fun _ _ _ h => h) (Or.inl ⟨by rfl, ?_⟩) (by assumption) ?_
      rotate_left
      · (intro w hSw; (try dsimp only at hSw); go_simp; (try with_reducible rfl))
      (try simp only [List.getElem_toArray, List.getElem_cons_succ, List.getElem_cons_zero, Act.put, List.setIfInBounds_toArray, List.set_cons_zero, List.set_cons_succ])
      refine wpAnyH_take (i := 5) (v := ?_) rfl (by kernel_rfl) (by kernel_rfl) (by kernel_rfl) (fun _ _ _ h => h) (Or.inl ⟨by rfl, ?_⟩) (by assumption) ?_
      rotate_left
      · (intro w hSw; (try dsimp only at hSw); go_simp; (try with_reducible rfl))
      (try simp only [List.getElem_toArray, List.getElem_cons_succ, List.getElem_cons_zero, Act.put, List.setIfInBounds_toArray, List.set_cons_zero, List.set_cons_succ])
      refine wpAnyH_take (i := 6) (v := ?_) rfl (by kernel_rfl) (by kernel_rfl) (by kernel_rfl) (fun _ _ _ h => h) (Or.inl ⟨by rfl, ?_⟩) (by assumption) ?_
      rotate_left
      · (intro w hSw; (try dsimp only at hSw); go_simp; (try with_reducible rfl))
      (try simp only [List.getElem_toArray, List.getElem_cons_succ, List.getElem_cons_zero, Act.put, List.setIfInBounds_toArray, List.set_cons_zero, List.set_cons_succ])
      refine wpAnyH_ready (rs := [4]) (by kernel_rfl) (by simp) (AllReadyH.cons (o := _) rfl (fun K hK => ?_) AllReadyH.nil)
      go_simp
      go_at_call 39
      refine (pcompare_v f0 f1 f2 f3 (by omega) (by omega) Hkc.out).mono ?_
      rintro e w802 ⟨rfl, hb⟩
      replace f0 := f0.below hb
      replace f1 := f1.below hb
      replace f2 := f2.below hb
      replace f3 := f3.below hb
      replace f6 := f6.below hb
      replace f7 := f7.below hb
      replace h0 := h0.below hb
      replace h1 := h1.below hb
      replace h2 := h2.below hb
      replace h3 := h3.below hb
      replace h4 := h4.below hb
      replace h5 := h5.below hb
      replace b0 := b0.below hb
      replace b1 := b1.below hb
      replace b3 := b3.below hb
      replace ba := ba.below hb
      replace bb := bb.below hb
      replace bc := bc.below hb
      replace H0 := H0.trans (hb.mono H0.size)
      clear hb
      go_wp2_with fail
      refine hK.out _ _ ⟨b0.cell 0 _ rfl, b0.cell 1 _ rfl, b0.cell 2 _ rfl, b0.cell 3 _ rfl, b0.cell 4 _ rfl, b0.cell 5 _ rfl, b1.cell 0 _ rfl, b1.cell 1 _ rfl, b1.cell 2 _ rfl, b1.cell 3 _ rfl, b1.cell 4 _ rfl, b1.cell 5 _ rfl, b3.cell 0 _ rfl, b3.cell 1 _ rfl, b3.cell 2 _ rfl, b3.cell 3 _ rfl, b3.cell 4 _ rfl, b3.cell 5 _ rfl, ba.cell 0 _ rfl, ba.cell 1 _ rfl, ba.cell 2 _ rfl, ba.cell 3 _ rfl, ba.cell 4 _ rfl, ba.cell 5 _ rfl, bb.cell 0 _ rfl, bb.cell 1 _ rfl, bb.cell 2 _ rfl, bb.cell 3 _ rfl, bb.cell 4 _ rfl, bb.cell 5 _ rfl, bc.cell 0 _ rfl, bc.cell 1 _ rfl, bc.cell 2 _ rfl, bc.cell 3 _ rfl, bc.cell 4 _ rfl, bc.cell 5 _ rfl⟩ (fun hHeld => ?_)
      clear hK K
      (try simp only [List.getElem_toArray, List.getElem_cons_succ, List.getElem_cons_zero, Act.put, List.setIfInBounds_toArray, List.set_cons_zero, List.set_cons_succ])
      refine wpAnyH_ready (rs := [7]) (by kernel_rfl) (by simp) (AllReadyH.cons (o := _) rfl (fun K hK => ?_) AllReadyH.nil)
      go_simp
      go_at_call 40
      refine (gcompare_v h0 h1 h2 h3 (by omega) (by omega) Hkc.out).mono ?_
      rintro e w803 ⟨rfl, hb⟩
      replace f0 := f0.below hb
      replace f1 := f1.below hb
      replace f2 := f2.below hb
      replace f3 := f3.below hb
      replace f6 := f6.below hb
      replace f7 := f7.below hb
      replace h0 := h0.below hb
      replace h1 := h1.below hb
      replace h2 := h2.below hb
      replace h3 := h3.below hb
      replace h4 := h4.below hb
      replace h5 := h5.below hb
      replace b0 := b0.below hb
      replace b1 := b1.below hb
      replace b3 := b3.below hb
      replace ba := ba.below hb
      replace bb := bb.below hb
      replace bc := bc.below hb
      replace H0 := H0.trans (hb.mono H0.size)
      clear hb
      go_wp2_with fail
      refine hK.out _ _ ⟨b0.cell 0 _ rfl, b0.cell 1 _ rfl, b0.cell 2 _ rfl, b0.cell 3 _ rfl, b0.cell 4 _ rfl, b0.cell 5 _ rfl, b1.cell 0 _ rfl, b1.cell 1 _ rfl, b1.cell 2 _ rfl, b1.cell 3 _ rfl, b1.cell 4 _ rfl, b1.cell 5 _ rfl, b3.cell 0 _ rfl, b3.cell 1 _ rfl, b3.cell 2 _ rfl, b3.cell 3 _ rfl, b3.cell 4 _ rfl, b3.cell 5 _ rfl, ba.cell 0 _ rfl, ba.cell 1 _ rfl, ba.cell 2 _ rfl, ba.cell 3 _ rfl, ba.cell 4 _ rfl, ba.cell 5 _ rfl, bb.cell 0 _ rfl, bb.cell 1 _ rfl, bb.cell 2 _ rfl, bb.cell 3 _ rfl, bb.cell 4 _ rfl, bb.cell 5 _ rfl, bc.cell 0 _ rfl, bc.cell 1 _ rfl, bc.cell 2 _ rfl, bc.cell 3 _ rfl, bc.cell 4 _ rfl, bc.cell 5 _ rfl⟩ (fun hHeld => ?_)
      clear hK K
      (try simp only [List.getElem_toArray, List.getElem_cons_succ, List.getElem_cons_zero, Act.put, List.setIfInBounds_toArray, List.set_cons_zero, List.set_cons_succ])
      refine wpAnyH_take (i := 8) (v := ?_) rfl (by kernel_rfl) (by kernel_rfl) (by kernel_rfl) (fun _ _ _ h => h) (Or.inl ⟨by rfl, ?_⟩) (by assumption) ?_
      rotate_left
      · (intro w hSw; (try dsimp only at hSw); go_simp; (try with_reducible rfl))
      (try simp only [List.getElem_toArray, List.getElem_cons_succ, List.getElem_cons_zero, Act.put, List.setIfInBounds_toArray, List.set_cons_zero, List.set_cons_succ])
      refine wpAnyH_take (i := 9) (v := ?_) rfl (by kernel_rfl) (by kernel_rfl) (by kernel_rfl) (fun _ _ _ h => h) (Or.inl ⟨by rfl, ?_⟩) (by assumption) ?_
      rotate_left
      · (intro w hSw; (try dsimp only at hSw); go_simp; (try with_reducible rfl))
      (try simp only [List.getElem_toArray, List.getElem_cons_succ, List.getElem_cons_zero, Act.put, List.setIfInBounds_toArray, List.set_cons_zero, List.set_cons_succ])
      refine wpAnyH_take (i := 10) (v := ?_) rfl (by kernel_rfl) (by kernel_rfl) (by kernel_rfl) (fun _ _ _ h => h) (Or.inl ⟨by rfl, ?_⟩) (by assumption) ?_
      rotate_left
      · (intro w hSw; (try dsimp only at hSw); go_simp; (try with_reducible rfl))
      (try simp only [List.getElem_toArray, List.getElem_cons_succ, List.getElem_cons_zero, Act.put, List.setIfInBounds_toArray, List.set_cons_zero, List.set_cons_succ])
      refine wpAnyH_take (i := 11) (v := ?_) rfl (by kernel_rfl) (by kernel_rfl) (by kernel_rfl) (fun _ _ _ h => h) (Or.inl ⟨by rfl, ?_⟩) (by assumption) ?_
      rotate_left
      · (intro w hSw; (try dsimp only at hSw); go_simp; (try with_reducible rfl))
      (try simp only [List.getElem_toArray, List.getElem_cons_succ, List.getElem_cons_zero, Act.put, List.setIfInBounds_toArray, List.set_cons_zero, List.set_cons_succ])
      refine wpAnyH_take (i := 12) (v := ?_) rfl (by kernel_rfl) (by kernel_rfl) (by kernel_rfl) (fun _ _ _ h => h) (Or.inl ⟨by rfl, ?_⟩) (by assumption) ?_
      rotate_left
      · (intro w hSw; (try dsimp only at hSw); go_simp; (try with_reducible rfl))
      (try simp only [List.getElem_toArray, List.getElem_cons_succ, List.getElem_cons_zero, Act.put, List.setIfInBounds_toArray, List.set_cons_zero, List.set_cons_succ])
      refine wpAnyH_take (i := 14) (v := ?_) rfl (by kernel_rfl) (by kernel_rfl) (by kernel_rfl) (fun _ _ _ h => h) (Or.inl ⟨by rfl, ?_⟩) (by assumption) ?_
      rotate_left
      · (intro w hSw; (try dsimp only at hSw); go_simp; (try with_reducible rfl))
      (try simp only [List.getElem_toArray, List.getElem_cons_succ, List.getElem_cons_zero, Act.put, List.setIfInBounds_toArray, List.set_cons_zero, List.set_cons_succ])
      refine wpAnyH_take (i := 15) (v := ?_) rfl (by kernel_rfl) (by kernel_rfl) (by kernel_rfl) (fun _ _ _ h => h) (Or.inl ⟨by rfl, ?_⟩) (by assumption) ?_
      rotate_left
      · (intro w hSw; (try dsimp only at hSw); go_simp; (try with_reducible rfl))
      (try simp only [List.getElem_toArray, List.getElem_cons_succ, List.getElem_cons_zero, Act.put, List.setIfInBounds_toArray, List.set_cons_zero, List.set_cons_succ])
      refine wpAnyH_ready (rs := [13]) (by kernel_rfl) (by simp) (AllReadyH.cons (o := _) rfl (fun K hK => ?_) AllReadyH.nil)
      go_simp
      go_at_call 41
      refine (pangle_v f0 f1 f2 f3 (by omega) (by omega) Hka.out).mono ?_
      rintro e w804 ⟨rfl, hb⟩
      replace f0 := f0.below hb
      replace f1 := f1.below hb
      replace f2 := f2.below hb
      replace f3 := f3.below hb
      replace f6 := f6.below hb
      replace f7 := f7.below hb
      replace h0 := h0.below hb
      replace h1 := h1.below hb
      replace h2 := h2.below hb
      replace h3 := h3.below hb
      replace h4 := h4.below hb
      replace h5 := h5.below hb
      replace b0 := b0.below hb
      replace b1 := b1.below hb
      replace b3 := b3.below hb
      replace ba := ba.below hb
      replace bb := bb.below hb
      replace bc := bc.below hb
      replace H0 := H0.trans (hb.mono H0.size)
      clear hb
      go_wp2_with fail
      refine hK.out _ _ ⟨b0.cell 0 _ rfl, b0.cell 1 _ rfl, b0.cell 2 _ rfl, b0.cell 3 _ rfl, b0.cell 4 _ rfl, b0.cell 5 _ rfl, b1.cell 0 _ rfl, b1.cell 1 _ rfl, b1.cell 2 _ rfl, b1.cell 3 _ rfl, b1.cell 4 _ rfl, b1.cell 5 _ rfl, b3.cell 0 _ rfl, b3.cell 1 _ rfl, b3.cell 2 _ rfl, b3.cell 3 _ rfl, b3.cell 4 _ rfl, b3.cell 5 _ rfl, ba.cell 0 _ rfl, ba.cell 1 _ rfl, ba.cell 2 _ rfl, ba.cell 3 _ rfl, ba.cell 4 _ rfl, ba.cell 5 _ rfl, bb.cell 0 _ rfl, bb.cell 1 _ rfl, bb.cell 2 _ rfl, bb.cell 3 _ rfl, bb.cell 4 _ rfl, bb.cell 5 _ rfl, bc.cell 0 _ rfl, bc.cell 1 _ rfl, bc.cell 2 _ rfl, bc.cell 3 _ rfl, bc.cell 4 _ rfl, bc.cell 5 _ rfl⟩ (fun hHeld => ?_)
      clear hK K
      (try simp only [List.getElem_toArray, List.getElem_cons_succ, List.getElem_cons_zero, Act.put, List.setIfInBounds_toArray, List.set_cons_zero, List.set_cons_succ])
      refine wpAnyH_ready (rs := [16]) (by kernel_rfl) (by simp) (AllReadyH.cons (o := _) rfl (fun K hK => ?_) AllReadyH.nil)
      go_simp
      go_at_call 42
      refine (gangle_v h0 h1 h2 h3 (by omega) (by omega) Hka.out).mono ?_
      rintro e w805 ⟨rfl, hb⟩
      replace f0 := f0.below hb
      replace f1 := f1.below hb
      replace f2 := f2.below hb
      replace f3 := f3.below hb
      replace f6 := f6.below hb
      replace f7 := f7.below hb
      replace h0 := h0.below hb
      replace h1 := h1.below hb
      replace h2 := h2.below hb
      replace h3 := h3.below hb
      replace h4 := h4.below hb
      replace h5 := h5.below hb
      replace b0 := b0.below hb
      replace b1 := b1.below hb
      replace b3 := b3.below hb
      replace ba := ba.below hb
      replace bb := bb.below hb
      replace bc := bc.below hb
      replace H0 := H0.trans (hb.mono H0.size)
      clear hb
      go_wp2_with fail
      refine hK.out _ _ ⟨b0.cell 0 _ rfl, b0.cell 1 _ rfl, b0.cell 2 _ rfl, b0.cell 3 _ rfl, b0.cell 4 _ rfl, b0.cell 5 _ rfl, b1.cell 0 _ rfl, b1.cell 1 _ rfl, b1.cell 2 _ rfl, b1.cell 3 _ rfl, b1.cell 4 _ rfl, b1.cell 5 _ rfl, b3.cell 0 _ rfl, b3.cell 1 _ rfl, b3.cell 2 _ rfl, b3.cell 3 _ rfl, b3.cell 4 _ rfl, b3.cell 5 _ rfl, ba.cell 0 _ rfl, ba.cell 1 _ rfl, ba.cell 2 _ rfl, ba.cell 3 _ rfl, ba.cell 4 _ rfl, ba.cell 5 _ rfl, bb.cell 0 _ rfl, bb.cell 1 _ rfl, bb.cell 2 _ rfl, bb.cell 3 _ rfl, bb.cell 4 _ rfl, bb.cell 5 _ rfl, bc.cell 0 _ rfl, bc.cell 1 _ rfl, bc.cell 2 _ rfl, bc.cell 3 _ rfl, bc.cell 4 _ rfl, bc.cell 5 _ rfl⟩ (fun hHeld => ?_)
      clear hK K
      (try simp only [List.getElem_toArray, List.getElem_cons_succ, List.getElem_cons_zero, Act.put, List.setIfInBounds_toArray, List.set_cons_zero, List.set_cons_succ])
      refine wpAnyH_take (i := 17) (v := ?_) rfl (by kernel_rfl) (by kernel_rfl) (by kernel_rfl) (fun _ _ _ h => h) (Or.inl ⟨by rfl, ?_⟩) (by assumption) ?_
      rotate_left
      · (intro w hSw; (try dsimp only at hSw); go_simp; (try with_reducible rfl))
      (try simp only [List.getElem_toArray, List.getElem_cons_succ, List.getElem_cons_zero, Act.put, List.setIfInBounds_toArray, List.set_cons_zero, List.set_cons_succ])
      refine wpAnyH_take (i := 18) (v := ?_) rfl (by kernel_rfl) (by kernel_rfl) (by kernel_rfl) (fun _ _ _ h => h) (Or.inl ⟨by rfl, ?_⟩) (by assumption) ?_
      rotate_left
      · (intro w hSw; (try dsimp only at hSw); go_simp; (try with_reducible rfl))
      (try simp only [List.getElem_toArray, List.getElem_cons_succ, List.getElem_cons_zero, Act.put, List.setIfInBounds_toArray, List.set_cons_zero, List.set_cons_succ])
      refine wpAnyH_take (i := 19) (v := ?_) rfl (by kernel_rfl) (by kernel_rfl) (by kernel_rfl) (fun _ _ _ h => h) (Or.inl ⟨by rfl, ?_⟩) (by assumption) ?_
      rotate_left
      · (intro w hSw; (try dsimp only at hSw); go_simp; (try with_reducible rfl))
      (try simp only [List.getElem_toArray, List.getElem_cons_succ, List.getElem_cons_zero, Act.put, List.setIfInBounds_toArray, List.set_cons_zero, List.set_cons_succ])
      refine wpAnyH_take (i := 20) (v := ?_) rfl (by kernel_rfl) (by kernel_rfl) (by kernel_rfl) (fun _ _ _ h => h) (Or.inl ⟨by rfl, ?_⟩) (by assumption) ?_
      rotate_left
      · (intro w hSw; (try dsimp only at hSw); go_simp; (try with_reducible rfl))
      (try simp only [List.getElem_toArray, List.getElem_cons_succ, List.getElem_cons_zero, Act.put, List.setIfInBounds_toArray, List.set_cons_zero, List.set_cons_succ])
      refine wpAnyH_take (i := 21) (v := ?_) rfl (by kernel_rfl) (by kernel_rfl) (by kernel_rfl) (fun _ _ _ h => h) (Or.inl ⟨by rfl, ?_⟩) (by assumption) ?_
      rotate_left
      · (intro w hSw; (try dsimp only at hSw); go_simp; (try with_reducible rfl))
      (try simp only [List.getElem_toArray, List.getElem_cons_succ, List.getElem_cons_zero, Act.put, List.setIfInBounds_toArray, List.set_cons_zero, List.set_cons_succ])
      refine wpAnyH_take (i := 22) (v := ?_) rfl (by kernel_rfl) (by kernel_rfl) (by kernel_rfl) (fun _ _ _ h => h) (Or.inl ⟨by rfl, ?_⟩) (by assumption) ?_
      rotate_left
      · (intro w hSw; (try dsimp only at hSw); go_simp; (try with_reducible rfl))
      (try simp only [List.getElem_toArray, List.getElem_cons_succ, List.getElem_cons_zero, Act.put, List.setIfInBounds_toArray, List.set_cons_zero, List.set_cons_succ])
      refine wpAnyH_take (i := 24) (v := ?_) rfl (by kernel_rfl) (by kernel_rfl) (by kernel_rfl) (fun _ _ _ h => h) (Or.inl ⟨by rfl, ?_⟩) (by assumption) ?_
      rotate_left
      · (intro w hSw; (try dsimp only at hSw); go_simp; (try with_reducible rfl))
      (try simp only [List.getElem_toArray, List.getElem_cons_succ, List.getElem_cons_zero, Act.put, List.setIfInBounds_toArray, List.set_cons_zero, List.set_cons_succ])
      refine wpAnyH_take (i := 25) (v := ?_) rfl (by kernel_rfl) (by kernel_rfl) (by kernel_rfl) (fun _ _ _ h => h) (Or.inl ⟨by rfl, ?_⟩) (by assumption) ?_
      rotate_left
      · (intro w hSw; (try dsimp only at hSw); go_simp; (try with_reducible rfl))
      (try simp only [List.getElem_toArray, List.getElem_cons_succ, List.getElem_cons_zero, Act.put, List.setIfInBounds_toArray, List.set_cons_zero, List.set_cons_succ])
      refine wpAnyH_take (i := 26) (v := ?_) rfl (by kernel_rfl) (by kernel_rfl) (by kernel_rfl) (fun _ _ _ h => h) (Or.inl ⟨by rfl, ?_⟩) (by assumption) ?_
      rotate_left
      · (intro w hSw; (try dsimp only at hSw); go_simp; (try with_reducible rfl))
      (try simp only [List.getElem_toArray, List.getElem_cons_succ, List.getElem_cons_zero, Act.put, List.setIfInBounds_toArray, List.set_cons_zero, List.set_cons_succ])
      refine wpAnyH_ready (rs := [23]) (by kernel_rfl) (by simp) (AllReadyH.cons (o := _) rfl (fun K hK => ?_) AllReadyH.nil)
      go_simp
      go_at_call 43
      refine (pbetween_v f0 f1 f2 f3 f6 f7 (by omega) (by omega) (by omega) HB9.out).mono ?_
      rintro e w806 ⟨rfl, hb⟩
      replace f0 := f0.below hb
      replace f1 := f1.below hb
      replace f2 := f2.below hb
      replace f3 := f3.below hb
      replace f6 := f6.below hb
      replace f7 := f7.below hb
      replace h0 := h0.below hb
      replace h1 := h1.below hb
      replace h2 := h2.below hb
      replace h3 := h3.below hb
      replace h4 := h4.below hb
      replace h5 := h5.below hb
      replace b0 := b0.below hb
      replace b1 := b1.below hb
      replace b3 := b3.below hb
      replace ba := ba.below hb
      replace bb := bb.below hb
      replace bc := bc.below hb
      replace H0 := H0.trans (hb.mono H0.size)
      clear hb
      go_wp2_with fail
      refine hK.out _ _ ⟨b0.cell 0 _ rfl, b0.cell 1 _ rfl, b0.cell 2 _ rfl, b0.cell 3 _ rfl, b0.cell 4 _ rfl, b0.cell 5 _ rfl, b1.cell 0 _ rfl, b1.cell 1 _ rfl, b1.cell 2 _ rfl, b1.cell 3 _ rfl, b1.cell 4 _ rfl, b1.cell 5 _ rfl, b3.cell 0 _ rfl, b3.cell 1 _ rfl, b3.cell 2 _ rfl, b3.cell 3 _ rfl, b3.cell 4 _ rfl, b3.cell 5 _ rfl, ba.cell 0 _ rfl, ba.cell 1 _ rfl, ba.cell 2 _ rfl, ba.cell 3 _ rfl, ba.cell 4 _ rfl, ba.cell 5 _ rfl, bb.cell 0 _ rfl, bb.cell 1 _ rfl, bb.cell 2 _ rfl, bb.cell 3 _ rfl, bb.cell 4 _ rfl, bb.cell 5 _ rfl, bc.cell 0 _ rfl, bc.cell 1 _ rfl, bc.cell 2 _ rfl, bc.cell 3 _ rfl, bc.cell 4 _ rfl, bc.cell 5 _ rfl⟩ (fun hHeld => ?_)
      clear hK K
      (try simp only [List.getElem_toArray, List.getElem_cons_succ, List.getElem_cons_zero, Act.put, List.setIfInBounds_toArray, List.set_cons_zero, List.set_cons_succ])
      refine wpAnyH_ready (rs := [27]) (by kernel_rfl) (by simp) (AllReadyH.cons (o := _) rfl (fun K hK => ?_) AllReadyH.nil)
      go_simp
      go_at_call 44
      refine (gbetween_v h0 h1 h2 h3 h4 h5 (by omega) (by omega) (by omega) HB8.out).mono ?_
      rintro e w807 ⟨rfl, hb⟩
      replace f0 := f0.below hb
      replace f1 := f1.below hb
      replace f2 := f2.below hb
      replace f3 := f3.below hb
      replace f6 := f6.below hb
      replace f7 := f7.below hb
      replace h0 := h0.below hb
      replace h1 := h1.below hb
      replace h2 := h2.below hb
      replace h3 := h3.below hb
      replace h4 := h4.below hb
      replace h5 := h5.below hb
      replace b0 := b0.below hb
      replace b1 := b1.below hb
      replace b3 := b3.below hb
      replace ba := ba.below hb
      replace bb := bb.below hb
      replace bc := bc.below hb
      replace H0 := H0.trans (hb.mono H0.size)
      clear hb
      go_wp2_with fail
      refine hK.out _ _ ⟨b0.cell 0 _ rfl, b0.cell 1 _ rfl, b0.cell 2 _ rfl, b0.cell 3 _ rfl, b0.cell 4 _ rfl, b0.cell 5 _ rfl, b1.cell 0 _ rfl, b1.cell 1 _ rfl, b1.cell 2 _ rfl, b1.cell 3 _ rfl, b1.cell 4 _ rfl, b1.cell 5 _ rfl, b3.cell 0 _ rfl, b3.cell 1 _ rfl, b3.cell 2 _ rfl, b3.cell 3 _ rfl, b3.cell 4 _ rfl, b3.cell 5 _ rfl, ba.cell 0 _ rfl, ba.cell 1 _ rfl, ba.cell 2 _ rfl, ba.cell 3 _ rfl, ba.cell 4 _ rfl, ba.cell 5 _ rfl, bb.cell 0 _ rfl, bb.cell 1 _ rfl, bb.cell 2 _ rfl, bb.cell 3 _ rfl, bb.cell 4 _ rfl, bb.cell 5 _ rfl, bc.cell 0 _ rfl, bc.cell 1 _ rfl, bc.cell 2 _ rfl, bc.cell 3 _ rfl, bc.cell 4 _ rfl, bc.cell 5 _ rfl⟩ (fun hHeld => ?_)
      clear hK K
      (try simp only [List.getElem_toArray, List.getElem_cons_succ, List.getElem_cons_zero, Act.put, List.setIfInBounds_toArray, List.set_cons_zero, List.set_cons_succ])
      refine wpAnyH_take (i := 28) (v := ?_) rfl (by kernel_rfl) (by kernel_rfl) (by kernel_rfl) (fun _ _ _ h => h) (Or.inl ⟨by rfl, ?_⟩) (by assumption) ?_
      rotate_left
      · (intro w hSw; (try dsimp only at hSw); go_simp; (try with_reducible rfl))
      (try simp only [List.getElem_toArray, List.getElem_cons_succ, List.getElem_cons_zero, Act.put, List.setIfInBounds_toArray, List.set_cons_zero, List.set_cons_succ])
      refine wpAnyH_take (i := 29) (v := ?_) rfl (by kernel_rfl) (by kernel_rfl) (by kernel_rfl) (fun _ _ _ h => h) (Or.inl ⟨by rfl, ?_⟩) (by assumption) ?_
      rotate_left
      · (intro w hSw; (try dsimp only at hSw); go_simp; (try with_reducible rfl))
      (try simp only [List.getElem_toArray, List.getElem_cons_succ, List.getElem_cons_zero, Act.put, List.setIfInBounds_toArray, List.set_cons_zero, List.set_cons_succ])
      refine wpAnyH_take (i := 30) (v := ?_) rfl (by kernel_rfl) (by kernel_rfl) (by kernel_rfl) (fun _ _ _ h => h) (Or.inl ⟨by rfl, ?_⟩) (by assumption) ?_
      rotate_left
      · (intro w hSw; (try dsimp only at hSw); go_simp; (try with_reducible rfl))
      (try simp only [List.getElem_toArray, List.getElem_cons_succ, List.getElem_cons_zero, Act.put, List.setIfInBounds_toArray, List.set_cons_zero, List.set_cons_succ])
      refine wpAnyH_take (i := 31) (v := ?_) rfl (by kernel_rfl) (by kernel_rfl) (by kernel_rfl) (fun _ _ _ h => h) (Or.inl ⟨by rfl, ?_⟩) (by assumption) ?_
      rotate_left
      · (intro w hSw; (try dsimp only at hSw); go_simp; (try with_reducible rfl))
      (try simp only [List.getElem_toArray, List.getElem_cons_succ, List.getElem_cons_zero, Act.put, List.setIfInBounds_toArray, List.set_cons_zero, List.set_cons_succ])
      refine wpAnyH_take (i := 33) (v := ?_) rfl (by kernel_rfl) (by kernel_rfl) (by kernel_rfl) (fun _ _ _ h => h) (Or.inl ⟨by rfl, ?_⟩) (by assumption) ?_
      rotate_left
      · (intro w hSw; (try dsimp only at hSw); go_simp; (try with_reducible rfl))
      (try simp only [List.getElem_toArray, List.getElem_cons_succ, List.getElem_cons_zero, Act.put, List.setIfInBounds_toArray, List.set_cons_zero, List.set_cons_succ])
      refine wpAnyH_ready (rs := [32]) (by kernel_rfl) (by simp) (AllReadyH.cons (o := _) rfl (fun K hK => ?_) AllReadyH.nil)
      go_simp
      go_at_call 45
      refine (pprim_v f0 f1 (by omega)).mono ?_
      rintro e w808 ⟨s16, A16, n16, c16, D16, m16, e16, s17, A17, n17, c17, D17, m17, e17, rfl, u0, u1, hb⟩
      replace f0 := f0.below hb
      replace f1 := f1.below hb
      replace f2 := f2.below hb
      replace f3 := f3.below hb
      replace f6 := f6.below hb
      replace f7 := f7.below hb
      replace h0 := h0.below hb
      replace h1 := h1.below hb
      replace h2 := h2.below hb
      replace h3 := h3.below hb
      replace h4 := h4.below hb
      replace h5 := h5.below hb
      replace b0 := b0.below hb
      replace b1 := b1.below hb
      replace b3 := b3.below hb
      replace ba := ba.below hb
      replace bb := bb.below hb
      replace bc := bc.below hb
      replace H0 := H0.trans (hb.mono H0.size)
      clear hb
      go_wp2_with fail
      refine hK.out _ _ ⟨b0.cell 0 _ rfl, b0.cell 1 _ rfl, b0.cell 2 _ rfl, b0.cell 3 _ rfl, b0.cell 4 _ rfl, b0.cell 5 _ rfl, b1.cell 0 _ rfl, b1.cell 1 _ rfl, b1.cell 2 _ rfl, b1.cell 3 _ rfl, b1.cell 4 _ rfl, b1.cell 5 _ rfl, b3.cell 0 _ rfl, b3.cell 1 _ rfl, b3.cell 2 _ rfl, b3.cell 3 _ rfl, b3.cell 4 _ rfl, b3.cell 5 _ rfl, ba.cell 0 _ rfl, ba.cell 1 _ rfl, ba.cell 2 _ rfl, ba.cell 3 _ rfl, ba.cell 4 _ rfl, ba.cell 5 _ rfl, bb.cell 0 _ rfl, bb.cell 1 _ rfl, bb.cell 2 _ rfl, bb.cell 3 _ rfl, bb.cell 4 _ rfl, bb.cell 5 _ rfl, bc.cell 0 _ rfl, bc.cell 1 _ rfl, bc.cell 2 _ rfl, bc.cell 3 _ rfl, bc.cell 4 _ rfl, bc.cell 5 _ rfl⟩ (fun hHeld => ?_)
      clear hK K
      (try simp only [List.getElem_toArray, List.getElem_cons_succ, List.getElem_cons_zero, Act.put, List.setIfInBounds_toArray, List.set_cons_zero, List.set_cons_succ])
      refine wpAnyH_ready (rs := [34]) (by kernel_rfl) (by simp) (AllReadyH.cons (o := _) rfl (fun K hK => ?_) AllReadyH.nil)
      go_simp
      go_at_call 46
      refine (gprim_v h0 h1 (by omega)).mono ?_
      rintro e w809 ⟨s18, A18, n18, c18, D18, m18, e18, s19, A19, n19, c19, D19, m19, e19, rfl, u2, u3, hb⟩
      replace f0 := f0.below hb
      replace f1 := f1.below hb
      replace f2 := f2.below hb
      replace f3 := f3.below hb
      replace f6 := f6.below hb
      replace f7 := f7.below hb
      replace h0 := h0.below hb
      replace h1 := h1.below hb
      replace h2 := h2.below hb
      replace h3 := h3.below hb
      replace h4 := h4.below hb
      replace h5 := h5.below hb
      replace u0 := u0.below hb
      replace u1 := u1.below hb
      replace b0 := b0.below hb
      replace b1 := b1.below hb
      replace b3 := b3.below hb
      replace ba := ba.below hb
      replace bb := bb.below hb
      replace bc := bc.below hb
      replace H0 := H0.trans (hb.mono H0.size)
      clear hb
      go_wp2_with fail
      refine hK.out _ _ ⟨b0.cell 0 _ rfl, b0.cell 1 _ rfl, b0.cell 2 _ rfl, b0.cell 3 _ rfl, b0.cell 4 _ rfl, b0.cell 5 _ rfl, b1.cell 0 _ rfl, b1.cell 1 _ rfl, b1.cell 2 _ rfl, b1.cell 3 _ rfl, b1.cell 4 _ rfl, b1.cell 5 _ rfl, b3.cell 0 _ rfl, b3.cell 1 _ rfl, b3.cell 2 _ rfl, b3.cell 3 _ rfl, b3.cell 4 _ rfl, b3.cell 5 _ rfl, ba.cell 0 _ rfl, ba.cell 1 _ rfl, ba.cell 2 _ rfl, ba.cell 3 _ rfl, ba.cell 4 _ rfl, ba.cell 5 _ rfl, bb.cell 0 _ rfl, bb.cell 1 _ rfl, bb.cell 2 _ rfl, bb.cell 3 _ rfl, bb.cell 4 _ rfl, bb.cell 5 _ rfl, bc.cell 0 _ rfl, bc.cell 1 _ rfl, bc.cell 2 _ rfl, bc.cell 3 _ rfl, bc.cell 4 _ rfl, bc.cell 5 _ rfl⟩ (fun hHeld => ?_)
      clear hK K
      (try simp only [List.getElem_toArray, List.getElem_cons_succ, List.getElem_cons_zero, Act.put, List.setIfInBounds_toArray, List.set_cons_zero, List.set_cons_succ])
      refine wpAnyH_ready (rs := [35]) (by kernel_rfl) (by simp) (AllReadyH.cons (o := _) rfl (fun K hK => ?_) AllReadyH.nil)
      go_simp
      go_at_call 12
      refine (same4_t u0 u1 u2 u3 (by omega) rfl rfl).mono ?_
      rintro e w810 ⟨rfl, hb⟩
      replace f0 := f0.below hb
      replace f1 := f1.below hb
      replace f2 := f2.below hb
      replace f3 := f3.below hb
      replace f6 := f6.below hb
      replace f7 := f7.below hb
      replace h0 := h0.below hb
      replace h1 := h1.below hb
      replace h2 := h2.below hb
      replace h3 := h3.below hb
      replace h4 := h4.below hb
      replace h5 := h5.below hb
      replace u0 := u0.below hb
      replace u1 := u1.below hb
      replace u2 := u2.below hb
      replace u3 := u3.below hb
      replace b0 := b0.below hb
      replace b1 := b1.below hb
      replace b3 := b3.below hb
      replace ba := ba.below hb
      replace bb := bb.below hb
      replace bc := bc.below hb
      replace H0 := H0.trans (hb.mono H0.size)
      clear hb
      go_wp2_with fail
      refine hK.out _ _ ⟨b0.cell 0 _ rfl, b0.cell 1 _ rfl, b0.cell 2 _ rfl, b0.cell 3 _ rfl, b0.cell 4 _ rfl, b0.cell 5 _ rfl, b1.cell 0 _ rfl, b1.cell 1 _ rfl, b1.cell 2 _ rfl, b1.cell 3 _ rfl, b1.cell 4 _ rfl, b1.cell 5 _ rfl, b3.cell 0 _ rfl, b3.cell 1 _ rfl, b3.cell 2 _ rfl, b3.cell 3 _ rfl, b3.cell 4 _ rfl, b3.cell 5 _ rfl, ba.cell 0 _ rfl, ba.cell 1 _ rfl, ba.cell 2 _ rfl, ba.cell 3 _ rfl, ba.cell 4 _ rfl, ba.cell 5 _ rfl, bb.cell 0 _ rfl, bb.cell 1 _ rfl, bb.cell 2 _ rfl, bb.cell 3 _ rfl, bb.cell 4 _ rfl, bb.cell 5 _ rfl, bc.cell 0 _ rfl, bc.cell 1 _ rfl, bc.cell 2 _ rfl, bc.cell 3 _ rfl, bc.cell 4 _ rfl, bc.cell 5 _ rfl⟩ (fun hHeld => ?_)
      clear hK K
      (try simp only [List.getElem_toArray, List.getElem_cons_succ, List.getElem_cons_zero, Act.put, List.setIfInBounds_toArray, List.set_cons_zero, List.set_cons_succ])
      refine wpAnyH_take (i := 36) (v := ?_) rfl (by kernel_rfl) (by kernel_rfl) (by kernel_rfl) (fun _ _ _ h => h) (Or.inl ⟨by rfl, ?_⟩) (by assumption) ?_
      rotate_left
      · (intro w hSw; (try dsimp only at hSw); go_simp; (try with_reducible rfl))
      (try simp only [List.getElem_toArray, List.getElem_cons_succ, List.getElem_cons_zero, Act.put, List.setIfInBounds_toArray, List.set_cons_zero, List.set_cons_succ])
      refine wpAnyH_take (i := 37) (v := ?_) rfl (by kernel_rfl) (by kernel_rfl) (by kernel_rfl) (fun _ _ _ h => h) (Or.inl ⟨by rfl, ?_⟩) (by assumption) ?_
      rotate_left
      · (intro w hSw; (try dsimp only at hSw); go_simp; (try with_reducible rfl))
      (try simp only [List.getElem_toArray, List.getElem_cons_succ, List.getElem_cons_zero, Act.put, List.setIfInBounds_toArray, List.set_cons_zero, List.set_cons_succ])
      refine wpAnyH_done (by kernel_rfl) ?_ _
      refine NoPanic.normal ?_
      go_wp2_with fail
      go_returns
      exact ⟨rfl, H0⟩
end
end Go.Proofs.YtlpgbflajcfgpaaGreatDoor
