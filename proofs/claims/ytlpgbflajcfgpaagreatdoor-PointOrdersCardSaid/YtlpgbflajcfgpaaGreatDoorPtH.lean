/-
  The reference's Between and Primitive.
-/
import Derived.Test.YtlpgbflajcfgpaaGreatDoorPtG
import Derived.Deep.Cut
import Derived.Test.YtlpgbflajcfgpaaGreatDoorE1
import Derived.Test.YtlpgbflajcfgpaaGreatDoorE2
import Derived.Test.YtlpgbflajcfgpaaGreatDoorE3
import Derived.Test.YtlpgbflajcfgpaaGreatDoorE4
namespace Go.Proofs.YtlpgbflajcfgpaaGreatDoor
open Go.RowKit

section
variable {A0 A1 A2 A3 A4 A5 A6 A7 D0 D1 D2 D3 D4 D5 D6 D7 : Option Addr} {n0 n1 n2 n3 n4 n5 n6 n7 c0 c1 c2 c3 c4 c5 c6 c7 m0 m1 m2 m3 m4 m5 m6 m7 e0 e1 e2 e3 e4 e5 e6 e7 : Nat} {s0 s1 s2 s3 s4 s5 s6 s7 : Bool} {q0 q1 q2 q3 q4 q5 q6 q7 : Rat} {z z' z0 z1 : Int} {L L0 L1 x x0 x1 y : Nat} {k : Int} {b : Bool} {w : World}
theorem mk_int {z : Int} {g : Nat} (hg : g ≠ 0) (hd : (g : Int) ∣ z) : mkRat z g = ((z / (g : Int) : Int) : Rat) := by
  obtain ⟨y, rfl⟩ := hd
  rw [Int.mul_ediv_cancel_left _ (by omega), show (g : Int) * y = y * (g : Int) from Int.mul_comm _ _]
  have := Rat.mkRat_mul_right (n := y) (d := 1) hg
  rw [Nat.one_mul] at this
  rw [this]; exact Rat.mkRat_one y
theorem sg_div {z : Int} {g : Nat} (hd : (g : Int) ∣ z) (hg : g ≠ 0) : sg (decide (z < 0)) (z.natAbs / g) = z / (g : Int) := by
  obtain ⟨y, rfl⟩ := hd
  rw [Int.mul_ediv_cancel_left _ (by omega), Int.natAbs_mul, Int.natAbs_natCast, Nat.mul_div_cancel_left _ (by omega)]
  have h1 : ((g : Int) * y < 0) ↔ y < 0 := by
    constructor
    · intro h
      rcases Int.lt_or_le y 0 with h2 | h2
      · exact h2
      · exact absurd h (by have := Int.mul_nonneg (show (0 : Int) ≤ (g : Int) by omega) h2; omega)
    · intro h; exact Int.mul_neg_of_pos_of_neg (by omega) h
  rw [decide_eq_decide.2 h1]; exact sg_self y
theorem prim_zero {a b : Int} {g : Nat} (h : a = 0) : mkRat (a * b) g = 0 := by rw [h, Int.zero_mul, Rat.zero_mkRat]
theorem hf_zero {q q' : Rat} (h : hfQ q q' = 0) : q = 0 ∧ q' = 0 := by
  unfold hfQ at h
  split at h
  · rename_i k; exact ⟨rsg_zero_iff.1 k.1, rsg_zero_iff.1 k.2⟩
  · split at h <;> omega
theorem hf_some {q q' : Rat} (h : hfQ q q' ≠ 0) : Nat.gcd (q.num * (q'.den : Int)).natAbs (q'.num * (q.den : Int)).natAbs ≠ 0 := by
  intro h0
  apply h
  have h1 := Nat.eq_zero_of_gcd_eq_zero_left h0
  have h2 := Nat.eq_zero_of_gcd_eq_zero_right h0
  have e : ∀ (p : Rat) (d : Nat), d ≠ 0 → (p.num * (d : Int)).natAbs = 0 → rsg p = 0 := fun p d hd hp => by
    rw [Int.natAbs_mul, Int.natAbs_natCast] at hp
    rcases Nat.mul_eq_zero.1 hp with hp | hp
    · exact rsg_zero_iff.2 (Rat.num_eq_zero.1 (by omega))
    · exact absurd hp hd
  unfold hfQ
  rw [if_pos ⟨e q _ q'.den_nz h1, e q' _ q.den_nz h2⟩]
theorem gcd_dl (a b : Int) : ((Nat.gcd a.natAbs b.natAbs : Nat) : Int) ∣ a := gcd_abs_dvd a b.natAbs
theorem gcd_dr (a b : Int) : ((Nat.gcd a.natAbs b.natAbs : Nat) : Int) ∣ b := by rw [Nat.gcd_comm]; exact gcd_abs_dvd b a.natAbs
set_option maxRecDepth 100000 in
set_option maxHeartbeats 4000000 in
theorem gbetween_v (h : PQ w s0 (.slice A0 n0 c0) (.slice D0 m0 e0) q0 L) (h' : PQ w s1 (.slice A1 n1 c1) (.slice D1 m1 e1) q1 L) (k1 : PQ w s2 (.slice A2 n2 c2) (.slice D2 m2 e2) q2 L0) (k1' : PQ w s3 (.slice A3 n3 c3) (.slice D3 m3 e3) q3 L0) (j : PQ w s4 (.slice A4 n4 c4) (.slice D4 m4 e4) q4 L1) (j' : PQ w s5 (.slice A5 n5 c5) (.slice D5 m5 e5) q5 L1) (hL : L ≤ 10) (hL0 : L0 ≤ 10) (hL1 : L1 ≤ 30) (hb : ((oriQ q0 q1 q2 q3 q4 q5 == 0) && decide (rsg ((q0 - q4) * (q2 - q4) + (q1 - q5) * (q3 - q5)) ≤ 0)) = b) :
    Calls Tryz.prog 44 #[.agg #[.bool s0, .slice A0 n0 c0, .slice D0 m0 e0, .bool s1, .slice A1 n1 c1, .slice D1 m1 e1], .agg #[.bool s2, .slice A2 n2 c2, .slice D2 m2 e2, .bool s3, .slice A3 n3 c3, .slice D3 m3 e3], .agg #[.bool s4, .slice A4 n4 c4, .slice D4 m4 e4, .bool s5, .slice A5 n5 c5, .slice D5 m5 e5]] w fun e w' => e = .returned (.bool b) ∧ Below w.heap.size w w' := by
  obtain ⟨ko, hko⟩ : ∃ a, oriQ q0 q1 q2 q3 q4 q5 = a := ⟨_, rfl⟩
  obtain ⟨ks, hks⟩ : ∃ a, rsg ((q0 - q4) * (q2 - q4) + (q1 - q5) * (q3 - q5)) = a := ⟨_, rfl⟩
  rw [hko, hks] at hb
  have HS := Lib.hid hks
  clear hks
  rcases Decidable.em (ko = 0) with h0 | h0
  · subst h0
    have HO := Lib.hid hko
    have hb2 : b = decide (ks ≤ 0) := by rw [← hb]; rfl
    subst hb2
    clear hb hko
    go_enter Tryz.func44, Tryz.ntmps44
    go_wp2_with fail
    obtain ⟨W0, hW, b0, b1, b2, hbW, hszW0⟩ := boxes3 w #[.bool s0, .slice A0 n0 c0, .slice D0 m0 e0, .bool s1, .slice A1 n1 c1, .slice D1 m1 e1] #[.bool s2, .slice A2 n2 c2, .slice D2 m2 e2, .bool s3, .slice A3 n3 c3, .slice D3 m3 e3] #[.bool s4, .slice A4 n4 c4, .slice D4 m4 e4, .bool s5, .slice A5 n5 c5, .slice D5 m5 e5] 38 38 38
    rw [hW]
    clear hW
    replace h := h.below hbW
    replace h' := h'.below hbW
    replace k1 := k1.below hbW
    replace k1' := k1'.below hbW
    replace j := j.below hbW
    replace j' := j'.below hbW
    have H0 := hbW
    clear hbW
    have hD := drawn_below W0
    replace h := h.below hD
    replace h' := h'.below hD
    replace k1 := k1.below hD
    replace k1' := k1'.below hD
    replace j := j.below hD
    replace j' := j'.below hD
    replace b0 := b0.below hD
    replace b1 := b1.below hD
    replace b2 := b2.below hD
    replace H0 := H0.trans (hD.mono H0.size)
    clear hD
    refine wp_region_noPanic ?_
    refine wp_region_held_drew (S := (fun V => V.cell? ⟨w.heap.size, 0, none⟩ = some (.bool s0) ∧ V.cell? ⟨w.heap.size, 1, none⟩ = some (.slice A0 n0 c0) ∧ V.cell? ⟨w.heap.size, 2, none⟩ = some (.slice D0 m0 e0) ∧ V.cell? ⟨w.heap.size, 3, none⟩ = some (.bool s1) ∧ V.cell? ⟨w.heap.size, 4, none⟩ = some (.slice A1 n1 c1) ∧ V.cell? ⟨w.heap.size, 5, none⟩ = some (.slice D1 m1 e1) ∧ V.cell? ⟨w.heap.size + 1, 0, none⟩ = some (.bool s2) ∧ V.cell? ⟨w.heap.size + 1, 1, none⟩ = some (.slice A2 n2 c2) ∧ V.cell? ⟨w.heap.size + 1, 2, none⟩ = some (.slice D2 m2 e2) ∧ V.cell? ⟨w.heap.size + 1, 3, none⟩ = some (.bool s3) ∧ V.cell? ⟨w.heap.size + 1, 4, none⟩ = some (.slice A3 n3 c3) ∧ V.cell? ⟨w.heap.size + 1, 5, none⟩ = some (.slice D3 m3 e3) ∧ V.cell? ⟨w.heap.size + 1 + 1, 0, none⟩ = some (.bool s4) ∧ V.cell? ⟨w.heap.size + 1 + 1, 1, none⟩ = some (.slice A4 n4 c4) ∧ V.cell? ⟨w.heap.size + 1 + 1, 2, none⟩ = some (.slice D4 m4 e4) ∧ V.cell? ⟨w.heap.size + 1 + 1, 3, none⟩ = some (.bool s5) ∧ V.cell? ⟨w.heap.size + 1 + 1, 4, none⟩ = some (.slice A5 n5 c5) ∧ V.cell? ⟨w.heap.size + 1 + 1, 5, none⟩ = some (.slice D5 m5 e5))) (by kernel_rfl) ⟨b0.cell 0 _ rfl, b0.cell 1 _ rfl, b0.cell 2 _ rfl, b0.cell 3 _ rfl, b0.cell 4 _ rfl, b0.cell 5 _ rfl, b1.cell 0 _ rfl, b1.cell 1 _ rfl, b1.cell 2 _ rfl, b1.cell 3 _ rfl, b1.cell 4 _ rfl, b1.cell 5 _ rfl, b2.cell 0 _ rfl, b2.cell 1 _ rfl, b2.cell 2 _ rfl, b2.cell 3 _ rfl, b2.cell 4 _ rfl, b2.cell 5 _ rfl⟩ (fun hHeld => ?_)
    generalize W0.drew = v1 at H0 hHeld h h' k1 k1' j j' b0 b1 b2 ⊢
    refine wpAnyH_take (i := 0) (v := ?_) rfl (by kernel_rfl) (by kernel_rfl) (by kernel_rfl) (fun _ _ _ h => h) (Or.inl ⟨by rfl, ?_⟩) (by assumption) ?_
    rotate_left
    · (intro w hSw; (try dsimp only at hSw); go_simp; (try with_reducible rfl))
    (try simp only [List.getElem_toArray, List.getElem_cons_zero, Act.put, List.setIfInBounds_toArray, List.set_cons_zero, List.set_cons_succ])
    refine wpAnyH_take (i := 1) (v := ?_) rfl (by kernel_rfl) (by kernel_rfl) (by kernel_rfl) (fun _ _ _ h => h) (Or.inl ⟨by rfl, ?_⟩) (by assumption) ?_
    rotate_left
    · (intro w hSw; (try dsimp only at hSw); go_simp; (try with_reducible rfl))
    (try simp only [List.getElem_toArray, List.getElem_cons_succ, List.getElem_cons_zero, Act.put, List.setIfInBounds_toArray, List.set_cons_zero, List.set_cons_succ])
    refine wpAnyH_take (i := 2) (v := ?_) rfl (by kernel_rfl) (by kernel_rfl) (by kernel_rfl) (fun _ _ _ h => h) (Or.inl ⟨by rfl, ?_⟩) (by assumption) ?_
    rotate_left
    · (intro w hSw; (try dsimp only at hSw); go_simp; (try with_reducible rfl))
    (try simp only [List.getElem_toArray, List.getElem_cons_succ, List.getElem_cons_zero, Act.put, List.setIfInBounds_toArray, List.set_cons_zero, List.set_cons_succ])
    refine wpAnyH_ready (rs := [3]) (by kernel_rfl) (by simp) (AllReadyH.cons (o := _) rfl (fun K hK => ?_) AllReadyH.nil)
    go_simp
    go_at_call 35
    refine (gorient_v h h' k1 k1' j j' hL (by omega) hL1 HO.out).mono ?_
    rintro e w2 ⟨rfl, hb⟩
    replace h := h.below hb
    replace h' := h'.below hb
    replace k1 := k1.below hb
    replace k1' := k1'.below hb
    replace j := j.below hb
    replace j' := j'.below hb
    replace b0 := b0.below hb
    replace b1 := b1.below hb
    replace b2 := b2.below hb
    replace H0 := H0.trans (hb.mono H0.size)
    clear hb
    go_wp2_with fail
    refine hK.out _ _ ⟨b0.cell 0 _ rfl, b0.cell 1 _ rfl, b0.cell 2 _ rfl, b0.cell 3 _ rfl, b0.cell 4 _ rfl, b0.cell 5 _ rfl, b1.cell 0 _ rfl, b1.cell 1 _ rfl, b1.cell 2 _ rfl, b1.cell 3 _ rfl, b1.cell 4 _ rfl, b1.cell 5 _ rfl, b2.cell 0 _ rfl, b2.cell 1 _ rfl, b2.cell 2 _ rfl, b2.cell 3 _ rfl, b2.cell 4 _ rfl, b2.cell 5 _ rfl⟩ (fun hHeld => ?_)
    clear hK K
    (try simp only [List.getElem_toArray, List.getElem_cons_succ, List.getElem_cons_zero, Act.put, List.setIfInBounds_toArray, List.set_cons_zero, List.set_cons_succ])
    refine wpAnyH_take (i := 4) (v := ?_) rfl (by kernel_rfl) (by kernel_rfl) (by kernel_rfl) (fun _ _ _ h => h) (Or.inl ⟨by rfl, ?_⟩) (by assumption) ?_
    rotate_left
    · (intro w hSw; (try dsimp only at hSw); go_simp; (try with_reducible rfl))
    (try simp only [List.getElem_toArray, List.getElem_cons_succ, List.getElem_cons_zero, Act.put, List.setIfInBounds_toArray, List.set_cons_zero, List.set_cons_succ])
    refine wpAnyH_take (i := 5) (v := ?_) rfl (by kernel_rfl) (by kernel_rfl) (by kernel_rfl) (fun _ _ _ h => h) (Or.inl ⟨by rfl, ?_⟩) (by assumption) ?_
    rotate_left
    · (intro w hSw; (try dsimp only at hSw); go_simp; (try with_reducible rfl))
    (try simp only [List.getElem_toArray, List.getElem_cons_succ, List.getElem_cons_zero, Act.put, List.setIfInBounds_toArray, List.set_cons_zero, List.set_cons_succ])
    refine wpAnyH_take (i := 6) (v := ?_) rfl (by kernel_rfl) (by kernel_rfl) (by kernel_rfl) (fun _ _ _ h => h) (Or.inl ⟨by rfl, ?_⟩) (by assumption) ?_
    rotate_left
    · (intro w hSw; (try dsimp only at hSw); go_simp; (try with_reducible rfl))
    (try simp only [List.getElem_toArray, List.getElem_cons_succ, List.getElem_cons_zero, Act.put, List.setIfInBounds_toArray, List.set_cons_zero, List.set_cons_succ])
    refine wpAnyH_take (i := 7) (v := ?_) rfl (by kernel_rfl) (by kernel_rfl) (by kernel_rfl) (fun _ _ _ h => h) (Or.inl ⟨by rfl, ?_⟩) (by assumption) ?_
    rotate_left
    · (intro w hSw; (try dsimp only at hSw); go_simp; (try with_reducible rfl))
    (try simp only [List.getElem_toArray, List.getElem_cons_succ, List.getElem_cons_zero, Act.put, List.setIfInBounds_toArray, List.set_cons_zero, List.set_cons_succ])
    refine wpAnyH_take (i := 9) (v := ?_) rfl (by kernel_rfl) (by kernel_rfl) (by kernel_rfl) (fun _ _ _ h => h) (Or.inl ⟨by rfl, ?_⟩) (by assumption) ?_
    rotate_left
    · (intro w hSw; (try dsimp only at hSw); go_simp; (try with_reducible rfl))
    (try simp only [List.getElem_toArray, List.getElem_cons_succ, List.getElem_cons_zero, Act.put, List.setIfInBounds_toArray, List.set_cons_zero, List.set_cons_succ])
    refine wpAnyH_take (i := 10) (v := ?_) rfl (by kernel_rfl) (by kernel_rfl) (by kernel_rfl) (fun _ _ _ h => h) (Or.inl ⟨by rfl, ?_⟩) (by assumption) ?_
    rotate_left
    · (intro w hSw; (try dsimp only at hSw); go_simp; (try with_reducible rfl))
    (try simp only [List.getElem_toArray, List.getElem_cons_succ, List.getElem_cons_zero, Act.put, List.setIfInBounds_toArray, List.set_cons_zero, List.set_cons_succ])
    refine wpAnyH_ready (rs := [8]) (by kernel_rfl) (by simp) (AllReadyH.cons (o := _) rfl (fun K hK => ?_) AllReadyH.nil)
    go_simp
    go_at_call 26
    refine (gsub_v h h' j j' (by omega) (by omega)).mono ?_
    rintro e w3 ⟨s6, A6, n6, c6, D6, m6, e6, s7, A7, n7, c7, D7, m7, e7, rfl, g6, g7, hb⟩
    replace h := h.below hb
    replace h' := h'.below hb
    replace k1 := k1.below hb
    replace k1' := k1'.below hb
    replace j := j.below hb
    replace j' := j'.below hb
    replace b0 := b0.below hb
    replace b1 := b1.below hb
    replace b2 := b2.below hb
    replace H0 := H0.trans (hb.mono H0.size)
    clear hb
    go_wp2_with fail
    refine hK.out _ _ ⟨b0.cell 0 _ rfl, b0.cell 1 _ rfl, b0.cell 2 _ rfl, b0.cell 3 _ rfl, b0.cell 4 _ rfl, b0.cell 5 _ rfl, b1.cell 0 _ rfl, b1.cell 1 _ rfl, b1.cell 2 _ rfl, b1.cell 3 _ rfl, b1.cell 4 _ rfl, b1.cell 5 _ rfl, b2.cell 0 _ rfl, b2.cell 1 _ rfl, b2.cell 2 _ rfl, b2.cell 3 _ rfl, b2.cell 4 _ rfl, b2.cell 5 _ rfl⟩ (fun hHeld => ?_)
    clear hK K
    (try simp only [List.getElem_toArray, List.getElem_cons_succ, List.getElem_cons_zero, Act.put, List.setIfInBounds_toArray, List.set_cons_zero, List.set_cons_succ])
    refine wpAnyH_ready (rs := [11]) (by kernel_rfl) (by simp) (AllReadyH.cons (o := _) rfl (fun K hK => ?_) AllReadyH.nil)
    go_simp
    go_at_call 26
    refine (gsub_v k1 k1' j j' (by omega) (by omega)).mono ?_
    rintro e w4 ⟨s8, A8, n8, c8, D8, m8, e8, s9, A9, n9, c9, D9, m9, e9, rfl, g8, g9, hb⟩
    replace h := h.below hb
    replace h' := h'.below hb
    replace k1 := k1.below hb
    replace k1' := k1'.below hb
    replace j := j.below hb
    replace j' := j'.below hb
    replace g6 := g6.below hb
    replace g7 := g7.below hb
    replace b0 := b0.below hb
    replace b1 := b1.below hb
    replace b2 := b2.below hb
    replace H0 := H0.trans (hb.mono H0.size)
    clear hb
    go_wp2_with fail
    refine hK.out _ _ ⟨b0.cell 0 _ rfl, b0.cell 1 _ rfl, b0.cell 2 _ rfl, b0.cell 3 _ rfl, b0.cell 4 _ rfl, b0.cell 5 _ rfl, b1.cell 0 _ rfl, b1.cell 1 _ rfl, b1.cell 2 _ rfl, b1.cell 3 _ rfl, b1.cell 4 _ rfl, b1.cell 5 _ rfl, b2.cell 0 _ rfl, b2.cell 1 _ rfl, b2.cell 2 _ rfl, b2.cell 3 _ rfl, b2.cell 4 _ rfl, b2.cell 5 _ rfl⟩ (fun hHeld => ?_)
    clear hK K
    (try simp only [List.getElem_toArray, List.getElem_cons_succ, List.getElem_cons_zero, Act.put, List.setIfInBounds_toArray, List.set_cons_zero, List.set_cons_succ])
    refine wpAnyH_ready (rs := [12]) (by kernel_rfl) (by simp) (AllReadyH.cons (o := _) rfl (fun K hK => ?_) AllReadyH.nil)
    go_simp
    go_at_call 31
    refine (gdot_v g6 g7 g8 g9 (by omega) (by omega)).mono ?_
    rintro e w5 ⟨s10, A10, n10, c10, D10, m10, e10, rfl, g10, hb⟩
    replace h := h.below hb
    replace h' := h'.below hb
    replace k1 := k1.below hb
    replace k1' := k1'.below hb
    replace j := j.below hb
    replace j' := j'.below hb
    replace g6 := g6.below hb
    replace g7 := g7.below hb
    replace g8 := g8.below hb
    replace g9 := g9.below hb
    replace b0 := b0.below hb
    replace b1 := b1.below hb
    replace b2 := b2.below hb
    replace H0 := H0.trans (hb.mono H0.size)
    clear hb
    clear g6
    clear g7
    clear g8
    clear g9
    go_wp2_with fail
    refine hK.out _ _ ⟨b0.cell 0 _ rfl, b0.cell 1 _ rfl, b0.cell 2 _ rfl, b0.cell 3 _ rfl, b0.cell 4 _ rfl, b0.cell 5 _ rfl, b1.cell 0 _ rfl, b1.cell 1 _ rfl, b1.cell 2 _ rfl, b1.cell 3 _ rfl, b1.cell 4 _ rfl, b1.cell 5 _ rfl, b2.cell 0 _ rfl, b2.cell 1 _ rfl, b2.cell 2 _ rfl, b2.cell 3 _ rfl, b2.cell 4 _ rfl, b2.cell 5 _ rfl⟩ (fun hHeld => ?_)
    clear hK K
    (try simp only [List.getElem_toArray, List.getElem_cons_succ, List.getElem_cons_zero, Act.put, List.setIfInBounds_toArray, List.set_cons_zero, List.set_cons_succ])
    refine wpAnyH_ready (rs := [13]) (by kernel_rfl) (by simp) (AllReadyH.cons (o := _) rfl (fun K hK => ?_) AllReadyH.nil)
    go_simp
    go_at_call 49
    refine (nqs_v g10 HS.out).mono ?_
    rintro e w6 ⟨rfl, hb⟩
    replace h := h.below hb
    replace h' := h'.below hb
    replace k1 := k1.below hb
    replace k1' := k1'.below hb
    replace j := j.below hb
    replace j' := j'.below hb
    replace g10 := g10.below hb
    replace b0 := b0.below hb
    replace b1 := b1.below hb
    replace b2 := b2.below hb
    replace H0 := H0.trans (hb.mono H0.size)
    clear hb
    clear g10
    go_wp2_with fail
    refine hK.out _ _ ⟨b0.cell 0 _ rfl, b0.cell 1 _ rfl, b0.cell 2 _ rfl, b0.cell 3 _ rfl, b0.cell 4 _ rfl, b0.cell 5 _ rfl, b1.cell 0 _ rfl, b1.cell 1 _ rfl, b1.cell 2 _ rfl, b1.cell 3 _ rfl, b1.cell 4 _ rfl, b1.cell 5 _ rfl, b2.cell 0 _ rfl, b2.cell 1 _ rfl, b2.cell 2 _ rfl, b2.cell 3 _ rfl, b2.cell 4 _ rfl, b2.cell 5 _ rfl⟩ (fun hHeld => ?_)
    clear hK K
    (try simp only [List.getElem_toArray, List.getElem_cons_succ, List.getElem_cons_zero, Act.put, List.setIfInBounds_toArray, List.set_cons_zero, List.set_cons_succ])
    refine wpAnyH_take (i := 14) (v := ?_) rfl (by kernel_rfl) (by kernel_rfl) (by kernel_rfl) (fun _ _ _ h => h) (Or.inl ⟨by rfl, ?_⟩) (by assumption) ?_
    rotate_left
    · (intro w hSw; (try dsimp only at hSw); go_simp; (try with_reducible rfl))
    (try simp only [List.getElem_toArray, List.getElem_cons_succ, List.getElem_cons_zero, Act.put, List.setIfInBounds_toArray, List.set_cons_zero, List.set_cons_succ])
    refine wpAnyH_take (i := 15) (v := ?_) rfl (by kernel_rfl) (by kernel_rfl) (by kernel_rfl) (fun _ _ _ h => h) (Or.inl ⟨by rfl, ?_⟩) (by assumption) ?_
    rotate_left
    · (intro w hSw; (try dsimp only at hSw); go_simp; (try with_reducible rfl))
    (try simp only [List.getElem_toArray, List.getElem_cons_succ, List.getElem_cons_zero, Act.put, List.setIfInBounds_toArray, List.set_cons_zero, List.set_cons_succ])
    refine wpAnyH_take (i := 16) (v := ?_) rfl (by kernel_rfl) (by kernel_rfl) (by kernel_rfl) (fun _ _ _ h => h) (Or.inl ⟨by rfl, ?_⟩) (by assumption) ?_
    rotate_left
    · (intro w hSw; (try dsimp only at hSw); go_simp; (try with_reducible rfl))
    (try simp only [List.getElem_toArray, List.getElem_cons_succ, List.getElem_cons_zero, Act.put, List.setIfInBounds_toArray, List.set_cons_zero, List.set_cons_succ])
    refine wpAnyH_done (by kernel_rfl) ?_ _
    refine NoPanic.normal ?_
    go_wp2_with fail
    go_returns
    exact ⟨rfl, H0⟩
  · have HO := Lib.hid hko
    have hk0 : ((ko : Int) == 0) = false := by rw [beq_eq_false_iff_ne]; exact h0
    have hb2 : b = false := by rw [← hb, hk0]; rfl
    subst hb2
    clear hb hko h0
    go_enter Tryz.func44, Tryz.ntmps44
    go_wp2_with fail
    obtain ⟨W0, hW, b0, b1, b2, hbW, hszW0⟩ := boxes3 w #[.bool s0, .slice A0 n0 c0, .slice D0 m0 e0, .bool s1, .slice A1 n1 c1, .slice D1 m1 e1] #[.bool s2, .slice A2 n2 c2, .slice D2 m2 e2, .bool s3, .slice A3 n3 c3, .slice D3 m3 e3] #[.bool s4, .slice A4 n4 c4, .slice D4 m4 e4, .bool s5, .slice A5 n5 c5, .slice D5 m5 e5] 38 38 38
    rw [hW]
    clear hW
    replace h := h.below hbW
    replace h' := h'.below hbW
    replace k1 := k1.below hbW
    replace k1' := k1'.below hbW
    replace j := j.below hbW
    replace j' := j'.below hbW
    have H0 := hbW
    clear hbW
    have hD := drawn_below W0
    replace h := h.below hD
    replace h' := h'.below hD
    replace k1 := k1.below hD
    replace k1' := k1'.below hD
    replace j := j.below hD
    replace j' := j'.below hD
    replace b0 := b0.below hD
    replace b1 := b1.below hD
    replace b2 := b2.below hD
    replace H0 := H0.trans (hD.mono H0.size)
    clear hD
    refine wp_region_noPanic ?_
    refine wp_region_held_drew (S := (fun V => V.cell? ⟨w.heap.size, 0, none⟩ = some (.bool s0) ∧ V.cell? ⟨w.heap.size, 1, none⟩ = some (.slice A0 n0 c0) ∧ V.cell? ⟨w.heap.size, 2, none⟩ = some (.slice D0 m0 e0) ∧ V.cell? ⟨w.heap.size, 3, none⟩ = some (.bool s1) ∧ V.cell? ⟨w.heap.size, 4, none⟩ = some (.slice A1 n1 c1) ∧ V.cell? ⟨w.heap.size, 5, none⟩ = some (.slice D1 m1 e1) ∧ V.cell? ⟨w.heap.size + 1, 0, none⟩ = some (.bool s2) ∧ V.cell? ⟨w.heap.size + 1, 1, none⟩ = some (.slice A2 n2 c2) ∧ V.cell? ⟨w.heap.size + 1, 2, none⟩ = some (.slice D2 m2 e2) ∧ V.cell? ⟨w.heap.size + 1, 3, none⟩ = some (.bool s3) ∧ V.cell? ⟨w.heap.size + 1, 4, none⟩ = some (.slice A3 n3 c3) ∧ V.cell? ⟨w.heap.size + 1, 5, none⟩ = some (.slice D3 m3 e3) ∧ V.cell? ⟨w.heap.size + 1 + 1, 0, none⟩ = some (.bool s4) ∧ V.cell? ⟨w.heap.size + 1 + 1, 1, none⟩ = some (.slice A4 n4 c4) ∧ V.cell? ⟨w.heap.size + 1 + 1, 2, none⟩ = some (.slice D4 m4 e4) ∧ V.cell? ⟨w.heap.size + 1 + 1, 3, none⟩ = some (.bool s5) ∧ V.cell? ⟨w.heap.size + 1 + 1, 4, none⟩ = some (.slice A5 n5 c5) ∧ V.cell? ⟨w.heap.size + 1 + 1, 5, none⟩ = some (.slice D5 m5 e5))) (by kernel_rfl) ⟨b0.cell 0 _ rfl, b0.cell 1 _ rfl, b0.cell 2 _ rfl, b0.cell 3 _ rfl, b0.cell 4 _ rfl, b0.cell 5 _ rfl, b1.cell 0 _ rfl, b1.cell 1 _ rfl, b1.cell 2 _ rfl, b1.cell 3 _ rfl, b1.cell 4 _ rfl, b1.cell 5 _ rfl, b2.cell 0 _ rfl, b2.cell 1 _ rfl, b2.cell 2 _ rfl, b2.cell 3 _ rfl, b2.cell 4 _ rfl, b2.cell 5 _ rfl⟩ (fun hHeld => ?_)
    generalize W0.drew = v1 at H0 hHeld h h' k1 k1' j j' b0 b1 b2 ⊢
    refine wpAnyH_take (i := 0) (v := ?_) rfl (by kernel_rfl) (by kernel_rfl) (by kernel_rfl) (fun _ _ _ h => h) (Or.inl ⟨by rfl, ?_⟩) (by assumption) ?_
    rotate_left
    · (intro w hSw; (try dsimp only at hSw); go_simp; (try with_reducible rfl))
    (try simp only [List.getElem_toArray, List.getElem_cons_zero, Act.put, List.setIfInBounds_toArray, List.set_cons_zero, List.set_cons_succ])
    refine wpAnyH_take (i := 1) (v := ?_) rfl (by kernel_rfl) (by kernel_rfl) (by kernel_rfl) (fun _ _ _ h => h) (Or.inl ⟨by rfl, ?_⟩) (by assumption) ?_
    rotate_left
    · (intro w hSw; (try dsimp only at hSw); go_simp; (try with_reducible rfl))
    (try simp only [List.getElem_toArray, List.getElem_cons_succ, List.getElem_cons_zero, Act.put, List.setIfInBounds_toArray, List.set_cons_zero, List.set_cons_succ])
    refine wpAnyH_take (i := 2) (v := ?_) rfl (by kernel_rfl) (by kernel_rfl) (by kernel_rfl) (fun _ _ _ h => h) (Or.inl ⟨by rfl, ?_⟩) (by assumption) ?_
    rotate_left
    · (intro w hSw; (try dsimp only at hSw); go_simp; (try with_reducible rfl))
    (try simp only [List.getElem_toArray, List.getElem_cons_succ, List.getElem_cons_zero, Act.put, List.setIfInBounds_toArray, List.set_cons_zero, List.set_cons_succ])
    refine wpAnyH_ready (rs := [3]) (by kernel_rfl) (by simp) (AllReadyH.cons (o := _) rfl (fun K hK => ?_) AllReadyH.nil)
    go_simp
    go_at_call 35
    refine (gorient_v h h' k1 k1' j j' hL (by omega) hL1 HO.out).mono ?_
    rintro e w2 ⟨rfl, hb⟩
    replace h := h.below hb
    replace h' := h'.below hb
    replace k1 := k1.below hb
    replace k1' := k1'.below hb
    replace j := j.below hb
    replace j' := j'.below hb
    replace b0 := b0.below hb
    replace b1 := b1.below hb
    replace b2 := b2.below hb
    replace H0 := H0.trans (hb.mono H0.size)
    clear hb
    go_wp2_with fail
    refine hK.out _ _ ⟨b0.cell 0 _ rfl, b0.cell 1 _ rfl, b0.cell 2 _ rfl, b0.cell 3 _ rfl, b0.cell 4 _ rfl, b0.cell 5 _ rfl, b1.cell 0 _ rfl, b1.cell 1 _ rfl, b1.cell 2 _ rfl, b1.cell 3 _ rfl, b1.cell 4 _ rfl, b1.cell 5 _ rfl, b2.cell 0 _ rfl, b2.cell 1 _ rfl, b2.cell 2 _ rfl, b2.cell 3 _ rfl, b2.cell 4 _ rfl, b2.cell 5 _ rfl⟩ (fun hHeld => ?_)
    clear hK K
    (try simp only [List.getElem_toArray, List.getElem_cons_succ, List.getElem_cons_zero, Act.put, List.setIfInBounds_toArray, List.set_cons_zero, List.set_cons_succ])
    refine wpAnyH_take (i := 4) (v := ?_) rfl (by kernel_rfl) (by kernel_rfl) (by kernel_rfl) (fun _ _ _ h => h) (Or.inl ⟨by rfl, ?_⟩) (by assumption) ?_
    rotate_left
    · (intro w hSw; (try dsimp only at hSw); go_simp; (try with_reducible rfl))
    (try simp only [List.getElem_toArray, List.getElem_cons_succ, List.getElem_cons_zero, Act.put, List.setIfInBounds_toArray, List.set_cons_zero, List.set_cons_succ])
    refine wpAnyH_take (i := 5) (v := ?_) rfl (by kernel_rfl) (by kernel_rfl) (by kernel_rfl) (fun _ _ _ h => h) (Or.inl ⟨by rfl, ?_⟩) (by assumption) ?_
    rotate_left
    · (intro w hSw; (try dsimp only at hSw); go_simp; (try with_reducible rfl))
    (try simp only [List.getElem_toArray, List.getElem_cons_succ, List.getElem_cons_zero, Act.put, List.setIfInBounds_toArray, List.set_cons_zero, List.set_cons_succ])
    refine wpAnyH_take (i := 6) (v := undef) rfl (by kernel_rfl) (by kernel_rfl) (by kernel_rfl) (fun _ _ _ h => h) (Or.inr ⟨by rfl, rfl⟩) (by assumption) ?_
    (try simp only [List.getElem_toArray, List.getElem_cons_succ, List.getElem_cons_zero, Act.put, List.setIfInBounds_toArray, List.set_cons_zero, List.set_cons_succ])
    refine wpAnyH_take (i := 7) (v := undef) rfl (by kernel_rfl) (by kernel_rfl) (by kernel_rfl) (fun _ _ _ h => h) (Or.inr ⟨by rfl, rfl⟩) (by assumption) ?_
    (try simp only [List.getElem_toArray, List.getElem_cons_succ, List.getElem_cons_zero, Act.put, List.setIfInBounds_toArray, List.set_cons_zero, List.set_cons_succ])
    refine wpAnyH_take (i := 9) (v := undef) rfl (by kernel_rfl) (by kernel_rfl) (by kernel_rfl) (fun _ _ _ h => h) (Or.inr ⟨by rfl, rfl⟩) (by assumption) ?_
    (try simp only [List.getElem_toArray, List.getElem_cons_succ, List.getElem_cons_zero, Act.put, List.setIfInBounds_toArray, List.set_cons_zero, List.set_cons_succ])
    refine wpAnyH_take (i := 10) (v := undef) rfl (by kernel_rfl) (by kernel_rfl) (by kernel_rfl) (fun _ _ _ h => h) (Or.inr ⟨by rfl, rfl⟩) (by assumption) ?_
    (try simp only [List.getElem_toArray, List.getElem_cons_succ, List.getElem_cons_zero, Act.put, List.setIfInBounds_toArray, List.set_cons_zero, List.set_cons_succ])
    refine wpAnyH_take (i := 8) (v := undef) rfl (by kernel_rfl) (by kernel_rfl) (by kernel_rfl) (fun _ _ _ h => h) (Or.inr ⟨by rfl, rfl⟩) (by assumption) ?_
    (try simp only [List.getElem_toArray, List.getElem_cons_succ, List.getElem_cons_zero, Act.put, List.setIfInBounds_toArray, List.set_cons_zero, List.set_cons_succ])
    refine wpAnyH_take (i := 11) (v := undef) rfl (by kernel_rfl) (by kernel_rfl) (by kernel_rfl) (fun _ _ _ h => h) (Or.inr ⟨by rfl, rfl⟩) (by assumption) ?_
    (try simp only [List.getElem_toArray, List.getElem_cons_succ, List.getElem_cons_zero, Act.put, List.setIfInBounds_toArray, List.set_cons_zero, List.set_cons_succ])
    refine wpAnyH_take (i := 12) (v := undef) rfl (by kernel_rfl) (by kernel_rfl) (by kernel_rfl) (fun _ _ _ h => h) (Or.inr ⟨by rfl, rfl⟩) (by assumption) ?_
    (try simp only [List.getElem_toArray, List.getElem_cons_succ, List.getElem_cons_zero, Act.put, List.setIfInBounds_toArray, List.set_cons_zero, List.set_cons_succ])
    refine wpAnyH_take (i := 13) (v := undef) rfl (by kernel_rfl) (by kernel_rfl) (by kernel_rfl) (fun _ _ _ h => h) (Or.inr ⟨by rfl, rfl⟩) (by assumption) ?_
    (try simp only [List.getElem_toArray, List.getElem_cons_succ, List.getElem_cons_zero, Act.put, List.setIfInBounds_toArray, List.set_cons_zero, List.set_cons_succ])
    refine wpAnyH_take (i := 14) (v := undef) rfl (by kernel_rfl) (by kernel_rfl) (by kernel_rfl) (fun _ _ _ h => h) (Or.inr ⟨by rfl, rfl⟩) (by assumption) ?_
    (try simp only [List.getElem_toArray, List.getElem_cons_succ, List.getElem_cons_zero, Act.put, List.setIfInBounds_toArray, List.set_cons_zero, List.set_cons_succ])
    refine wpAnyH_take (i := 15) (v := ?_) rfl (by kernel_rfl) (by kernel_rfl) (by kernel_rfl) (fun _ _ _ h => h) (Or.inl ⟨by rfl, ?_⟩) (by assumption) ?_
    rotate_left
    · (intro w hSw; (try dsimp only at hSw); go_simp; (try with_reducible rfl))
    (try simp only [List.getElem_toArray, List.getElem_cons_succ, List.getElem_cons_zero, Act.put, List.setIfInBounds_toArray, List.set_cons_zero, List.set_cons_succ])
    refine wpAnyH_take (i := 16) (v := ?_) rfl (by kernel_rfl) (by kernel_rfl) (by kernel_rfl) (fun _ _ _ h => h) (Or.inl ⟨by rfl, ?_⟩) (by assumption) ?_
    rotate_left
    · (intro w hSw; (try dsimp only at hSw); go_simp; (try with_reducible rfl))
    (try simp only [List.getElem_toArray, List.getElem_cons_succ, List.getElem_cons_zero, Act.put, List.setIfInBounds_toArray, List.set_cons_zero, List.set_cons_succ])
    refine wpAnyH_done (by kernel_rfl) ?_ _
    refine NoPanic.normal ?_
    go_wp2_with fail
    go_returns
    exact ⟨rfl, H0⟩
set_option maxRecDepth 100000 in
set_option maxHeartbeats 4000000 in
theorem gprim_v (h : PQ w s0 (.slice A0 n0 c0) (.slice D0 m0 e0) q0 L) (h' : PQ w s1 (.slice A1 n1 c1) (.slice D1 m1 e1) q1 L) (hL : L ≤ 100) :
    Calls Tryz.prog 46 #[.agg #[.bool s0, .slice A0 n0 c0, .slice D0 m0 e0, .bool s1, .slice A1 n1 c1, .slice D1 m1 e1]] w fun e w' => ∃ s2 A2 n2 c2 D2 m2 e2 s3 A3 n3 c3 D3 m3 e3, e = .returned (.agg #[.bool s2, .slice A2 n2 c2, .slice D2 m2 e2, .bool s3, .slice A3 n3 c3, .slice D3 m3 e3]) ∧ PQ w' s2 (.slice A2 n2 c2) (.slice D2 m2 e2) (mkRat (q0.num * (q1.den : Int)) (Nat.gcd (q0.num * (q1.den : Int)).natAbs (q1.num * (q0.den : Int)).natAbs)) (L + max L 1) ∧ PQ w' s3 (.slice A3 n3 c3) (.slice D3 m3 e3) (mkRat (q1.num * (q0.den : Int)) (Nat.gcd (q0.num * (q1.den : Int)).natAbs (q1.num * (q0.den : Int)).natAbs)) (L + max L 1) ∧ Below w.heap.size w w' := by
  obtain ⟨kh, hkh⟩ : ∃ a, hfQ q0 q1 = a := ⟨_, rfl⟩
  rcases Decidable.em (kh = 0) with h0 | h0
  · subst h0
    have HH := Lib.hid hkh
    have hz := hf_zero hkh
    have HZ : Hid ((mkRat (q0.num * (q1.den : Int)) (Nat.gcd (q0.num * (q1.den : Int)).natAbs (q1.num * (q0.den : Int)).natAbs)) = 0 ∧ (mkRat (q1.num * (q0.den : Int)) (Nat.gcd (q0.num * (q1.den : Int)).natAbs (q1.num * (q0.den : Int)).natAbs)) = 0) := Lib.hid ⟨by rw [hz.1]; exact prim_zero rfl, by rw [hz.2]; exact prim_zero rfl⟩
    clear hz hkh
    go_enter Tryz.func46, Tryz.ntmps46
    go_wp2_with fail
    obtain ⟨W0, hW, b0, b9, hbW, hszW0⟩ := boxes2 w #[.bool s0, .slice A0 n0 c0, .slice D0 m0 e0, .bool s1, .slice A1 n1 c1, .slice D1 m1 e1] #[.bool false, .slice none 0 0, .slice none 0 0, .bool false, .slice none 0 0, .slice none 0 0] 38 38
    rw [hW]
    clear hW
    replace h := h.below hbW
    replace h' := h'.below hbW
    have H0 := hbW
    clear hbW
    have cb00 := b0.cell 0 _ rfl
    have cb01 := b0.cell 1 _ rfl
    have cb02 := b0.cell 2 _ rfl
    have cb03 := b0.cell 3 _ rfl
    have cb04 := b0.cell 4 _ rfl
    have cb05 := b0.cell 5 _ rfl
    go_wp2_with fail
    clear cb00 cb01 cb02 cb03 cb04 cb05
    refine (ghalf_v h h' HH.out).mono ?_
    rintro e w1 ⟨rfl, hb⟩
    replace h := h.below hb
    replace h' := h'.below hb
    replace b0 := b0.below hb
    replace b9 := b9.below hb
    replace H0 := H0.trans (hb.mono H0.size)
    clear hb
    clear h
    clear h'
    have cb90 := b9.cell 0 _ rfl
    have yb90 := b9.frozen 0
    have cb91 := b9.cell 1 _ rfl
    have yb91 := b9.frozen 1
    have cb92 := b9.cell 2 _ rfl
    have yb92 := b9.frozen 2
    have cb93 := b9.cell 3 _ rfl
    have yb93 := b9.frozen 3
    have cb94 := b9.cell 4 _ rfl
    have yb94 := b9.frozen 4
    have cb95 := b9.cell 5 _ rfl
    have yb95 := b9.frozen 5
    go_wp2_with fail
    clear cb90 yb90 cb91 yb91 cb92 yb92 cb93 yb93 cb94 yb94 cb95 yb95
    have hg := only_store6 w1 (w.heap.size + 1) (.bool false) (.slice none 0 0) (.slice none 0 0) (.bool false) (.slice none 0 0) (.slice none 0 0)
    have hB := b9.stored6 (.bool false) (.slice none 0 0) (.slice none 0 0) (.bool false) (.slice none 0 0) (.slice none 0 0)
    generalize hX : ((((((w1.setCell ⟨w.heap.size + 1, 0, none⟩ (.bool false)).setCell ⟨w.heap.size + 1, 1, none⟩ (.slice none 0 0)).setCell ⟨w.heap.size + 1, 2, none⟩ (.slice none 0 0)).setCell ⟨w.heap.size + 1, 3, none⟩ (.bool false)).setCell ⟨w.heap.size + 1, 4, none⟩ (.slice none 0 0)).setCell ⟨w.heap.size + 1, 5, none⟩ (.slice none 0 0)) = X2 at hg hB ⊢
    clear hX
    replace b0 := b0.other hg (by omega)
    replace b9 := hB
    replace H0 := below_only H0 hg (by omega) H0.size
    clear hg hB
    refine bodyPost_ret (ret_geop rfl rfl b9) rfl ?_
    exact ⟨false, none, 0, 0, none, 0, 0, false, none, 0, 0, none, 0, 0, rfl, by rw [HZ.out.1]; exact PQ.zero _, by rw [HZ.out.2]; exact PQ.zero _, H0⟩
  · have HH := Lib.hid hkh
    have HN := Lib.hid h0
    have HN2 := Lib.hid (hf_some (by rw [hkh]; exact h0))
    have HG := Lib.hid (Nat.pos_of_ne_zero HN2.out)
    clear hkh h0
    go_enter Tryz.func46, Tryz.ntmps46
    go_wp2_with fail
    obtain ⟨W0, hW, b0, b9, hbW, hszW0⟩ := boxes2 w #[.bool s0, .slice A0 n0 c0, .slice D0 m0 e0, .bool s1, .slice A1 n1 c1, .slice D1 m1 e1] #[.bool false, .slice none 0 0, .slice none 0 0, .bool false, .slice none 0 0, .slice none 0 0] 38 38
    rw [hW]
    clear hW
    replace h := h.below hbW
    replace h' := h'.below hbW
    have H0 := hbW
    clear hbW
    have cb00 := b0.cell 0 _ rfl
    have cb01 := b0.cell 1 _ rfl
    have cb02 := b0.cell 2 _ rfl
    have cb03 := b0.cell 3 _ rfl
    have cb04 := b0.cell 4 _ rfl
    have cb05 := b0.cell 5 _ rfl
    go_wp2_with fail
    clear cb00 cb01 cb02 cb03 cb04 cb05
    refine (ghalf_v h h' HH.out).mono ?_
    rintro e w1 ⟨rfl, hb⟩
    replace h := h.below hb
    replace h' := h'.below hb
    replace b0 := b0.below hb
    replace b9 := b9.below hb
    replace H0 := H0.trans (hb.mono H0.size)
    clear hb
    have hn0 : ((kh : Int) == 0) = false := by rw [beq_eq_false_iff_ne]; exact HN.out
    have cb00 := b0.cell 0 _ rfl
    have cb01 := b0.cell 1 _ rfl
    have cb02 := b0.cell 2 _ rfl
    have cb03 := b0.cell 3 _ rfl
    have cb04 := b0.cell 4 _ rfl
    have cb05 := b0.cell 5 _ rfl
    go_wp2_with fail
    clear cb00 cb01 cb02 cb03 cb04 cb05
    clear hn0
    have i0 := h.1
    have i1 := h'.1
    have lcb0_2 := b0.lt
    have lcb9_2 := b9.lt
    go_cut [3] from 10 (fun u2_0 wx => ∃ g2_0 s5 A5 n5 c5, u2_0 = .pointer (some ⟨g2_0, 0, none⟩) ∧ NI wx s5 (.slice A5 n5 c5) (q0.num * (q1.den : Int)) (L + max L 1) ∧ Box wx g2_0 #[.bool s5, .slice A5 n5 c5] 34 ∧ w1.heap.size ≤ g2_0 ∧ Below w1.heap.size w1 wx)
    case first =>
      have hG := drawn_below w1
      refine wp_region_noPanic ?_
      refine wp_region_held_drew (S := (fun V => V.cell? ⟨w.heap.size, 0, none⟩ = some (.bool s0) ∧ V.cell? ⟨w.heap.size, 1, none⟩ = some (.slice A0 n0 c0) ∧ V.cell? ⟨w.heap.size, 2, none⟩ = some (.slice D0 m0 e0) ∧ V.cell? ⟨w.heap.size, 3, none⟩ = some (.bool s1) ∧ V.cell? ⟨w.heap.size, 4, none⟩ = some (.slice A1 n1 c1) ∧ V.cell? ⟨w.heap.size, 5, none⟩ = some (.slice D1 m1 e1))) (by kernel_rfl) ⟨(b0.below hG).cell 0 _ rfl, (b0.below hG).cell 1 _ rfl, (b0.below hG).cell 2 _ rfl, (b0.below hG).cell 3 _ rfl, (b0.below hG).cell 4 _ rfl, (b0.below hG).cell 5 _ rfl⟩ (fun hHeld => ?_)
      generalize w1.drew = v2 at hG hHeld ⊢
      have sG := hG.size
      refine wpAnyH_take (i := 0) (v := ?_) rfl (by kernel_rfl) (by kernel_rfl) (by kernel_rfl) (fun _ _ _ h => h) (Or.inl ⟨by rfl, ?_⟩) (by assumption) ?_
      rotate_left
      · (intro w hSw; (try dsimp only at hSw); go_simp; (try with_reducible rfl))
      (try simp only [List.getElem_toArray, List.getElem_cons_zero, Act.put, List.setIfInBounds_toArray, List.set_cons_zero, List.set_cons_succ])
      refine wpAnyH_take (i := 1) (v := ?_) rfl (by kernel_rfl) (by kernel_rfl) (by kernel_rfl) (fun _ _ _ h => h) (Or.inl ⟨by rfl, ?_⟩) (by assumption) ?_
      rotate_left
      · (intro w hSw; (try dsimp only at hSw); go_simp; (try with_reducible rfl))
      (try simp only [List.getElem_toArray, List.getElem_cons_succ, List.getElem_cons_zero, Act.put, List.setIfInBounds_toArray, List.set_cons_zero, List.set_cons_succ])
      refine wpAnyH_take (i := 2) (v := ?_) rfl (by kernel_rfl) (by kernel_rfl) (by kernel_rfl) (fun _ _ _ h => h) (Or.inl ⟨by rfl, ?_⟩) (by assumption) ?_
      rotate_left
      · (intro w hSw; (try dsimp only at hSw); go_simp; (try with_reducible rfl))
      (try simp only [List.getElem_toArray, List.getElem_cons_succ, List.getElem_cons_zero, Act.put, List.setIfInBounds_toArray, List.set_cons_zero, List.set_cons_succ])
      refine wpAnyH_take (i := 3) (v := ?_) rfl (by kernel_rfl) (by kernel_rfl) (by kernel_rfl) (fun _ _ _ h => h) (Or.inl ⟨by rfl, ?_⟩) (by assumption) ?_
      rotate_left
      · (intro w hSw; (try dsimp only at hSw); go_simp; (try with_reducible rfl))
      (try simp only [List.getElem_toArray, List.getElem_cons_succ, List.getElem_cons_zero, Act.put, List.setIfInBounds_toArray, List.set_cons_zero, List.set_cons_succ])
      refine wpAnyH_take (i := 4) (v := ?_) rfl (by kernel_rfl) (by kernel_rfl) (by kernel_rfl) (fun _ _ _ h => h) (Or.inl ⟨by rfl, ?_⟩) (by assumption) ?_
      rotate_left
      · (intro w hSw; (try dsimp only at hSw); go_simp; (try with_reducible rfl))
      (try simp only [List.getElem_toArray, List.getElem_cons_succ, List.getElem_cons_zero, Act.put, List.setIfInBounds_toArray, List.set_cons_zero, List.set_cons_succ])
      refine wpAnyH_ready (rs := [5, 8]) (by kernel_rfl) (by simp) (AllReadyH.cons (o := _) rfl (fun K hK => ?_) (AllReadyH.cons (o := _) rfl (fun K hK => ?_) AllReadyH.nil))
      · go_simp
        go_at_call 77
        refine (nden_v (h'.below hG)).mono ?_
        rintro e y2_1 ⟨A3, n3, c3, rfl, g3, hb9⟩
        have szy2_1 := hb9.size
        replace hG := hG.trans (hb9.mono sG)
        replace sG := hG.size
        clear hb9
        go_wp2_with fail
        refine hK.out _ _ ⟨(b0.below hG).cell 0 _ rfl, (b0.below hG).cell 1 _ rfl, (b0.below hG).cell 2 _ rfl, (b0.below hG).cell 3 _ rfl, (b0.below hG).cell 4 _ rfl, (b0.below hG).cell 5 _ rfl⟩ (fun hHeld => ?_)
        clear hK K
        (try simp only [List.getElem_toArray, List.getElem_cons_succ, List.getElem_cons_zero, Act.put, List.setIfInBounds_toArray, List.set_cons_zero, List.set_cons_succ])
        refine wpAnyH_ready (rs := [6, 8]) (by kernel_rfl) (by simp) (AllReadyH.cons (o := _) rfl (fun K hK => ?_) (AllReadyH.cons (o := _) rfl (fun K hK => ?_) AllReadyH.nil))
        · go_simp
          go_at_call 88
          refine (nmake_v false g3 (sg_false _)).mono ?_
          rintro e y2_2 ⟨s4, rfl, g4, hb9⟩
          have szy2_2 := hb9.size
          replace g3 := g3.below hb9
          replace hG := hG.trans (hb9.mono sG)
          replace sG := hG.size
          clear hb9
          clear g3
          go_wp2_with fail
          refine hK.out _ _ ⟨(b0.below hG).cell 0 _ rfl, (b0.below hG).cell 1 _ rfl, (b0.below hG).cell 2 _ rfl, (b0.below hG).cell 3 _ rfl, (b0.below hG).cell 4 _ rfl, (b0.below hG).cell 5 _ rfl⟩ (fun hHeld => ?_)
          clear hK K
          (try simp only [List.getElem_toArray, List.getElem_cons_succ, List.getElem_cons_zero, Act.put, List.setIfInBounds_toArray, List.set_cons_zero, List.set_cons_succ])
          refine wpAnyH_ready (rs := [7, 8]) (by kernel_rfl) (by simp) (AllReadyH.cons (o := _) rfl (fun K hK => ?_) (AllReadyH.cons (o := _) rfl (fun K hK => ?_) AllReadyH.nil))
          · go_simp
            go_at_call 87
            refine (nmul_v (i0.below hG) g4 (by omega) (by omega)).mono ?_
            rintro e y2_3 ⟨s5, A5, n5, c5, rfl, g5, hb9⟩
            have szy2_3 := hb9.size
            replace g4 := g4.below hb9
            replace hG := hG.trans (hb9.mono sG)
            replace sG := hG.size
            clear hb9
            clear g4
            go_wp2_with fail
            refine hK.out _ _ ⟨(b0.below hG).cell 0 _ rfl, (b0.below hG).cell 1 _ rfl, (b0.below hG).cell 2 _ rfl, (b0.below hG).cell 3 _ rfl, (b0.below hG).cell 4 _ rfl, (b0.below hG).cell 5 _ rfl⟩ (fun hHeld => ?_)
            clear hK K
            (try simp only [List.getElem_toArray, List.getElem_cons_succ, List.getElem_cons_zero, Act.put, List.setIfInBounds_toArray, List.set_cons_zero, List.set_cons_succ])
            refine wpAnyH_ready (rs := [8]) (by kernel_rfl) (by simp) (AllReadyH.cons (o := _) rfl (fun K hK => ?_) AllReadyH.nil)
            go_simp
            obtain ⟨y2_4, hV, b3, hb9, szy2_4⟩ := boxes1 y2_3 #[.bool false, .slice none 0 0] 34
            rw [hV]
            clear hV
            have gly2_4 : w1.heap.size ≤ y2_3.heap.size := sG
            replace szy2_4 : y2_3.heap.size < y2_4.heap.size := by omega
            replace g5 := g5.below hb9
            replace hG := hG.trans (hb9.mono sG)
            replace sG := hG.size
            clear hb9
            refine hK.out _ _ ⟨(b0.below hG).cell 0 _ rfl, (b0.below hG).cell 1 _ rfl, (b0.below hG).cell 2 _ rfl, (b0.below hG).cell 3 _ rfl, (b0.below hG).cell 4 _ rfl, (b0.below hG).cell 5 _ rfl⟩ (fun hHeld => ?_)
            clear hK K
            (try simp only [List.getElem_toArray, List.getElem_cons_succ, List.getElem_cons_zero, Act.put, List.setIfInBounds_toArray, List.set_cons_zero, List.set_cons_succ])
            have rb30 := b3.cell 0 _ rfl
            have qb30 := b3.frozen 0
            have rb31 := b3.cell 1 _ rfl
            have qb31 := b3.frozen 1
            refine wpAnyH_ready (rs := [9]) (by kernel_rfl) (by simp) (AllReadyH.cons (o := _) rfl (fun K hK => ?_) AllReadyH.nil)
            go_simp
            clear rb30 qb30
            clear rb31 qb31
            have hg := only_store y2_4 (y2_3.heap.size) (.bool s5) (.slice A5 n5 c5)
            have hB := b3.stored (.bool s5) (.slice A5 n5 c5)
            generalize hX : ((y2_4.setCell ⟨y2_3.heap.size, 0, none⟩ (.bool s5)).setCell ⟨y2_3.heap.size, 1, none⟩ (.slice A5 n5 c5)) = Y2_5 at hg hB ⊢
            clear hX
            replace g5 := g5.kept b3 (by simp [notInt]) hg
            replace b3 := hB
            replace hG := below_only hG hg (by omega) sG
            replace sG := hG.size
            clear hg hB
            refine hK.out _ _ ⟨(b0.below hG).cell 0 _ rfl, (b0.below hG).cell 1 _ rfl, (b0.below hG).cell 2 _ rfl, (b0.below hG).cell 3 _ rfl, (b0.below hG).cell 4 _ rfl, (b0.below hG).cell 5 _ rfl⟩ (fun hHeld => ?_)
            clear hK K
            (try simp only [List.getElem_toArray, List.getElem_cons_succ, List.getElem_cons_zero, Act.put, List.setIfInBounds_toArray, List.set_cons_zero, List.set_cons_succ])
            refine wpAnyH_done (by kernel_rfl) ?_ _
            refine NoPanic.normal ?_
            go_wp2_with fail
            go_meet
            exact ⟨y2_3.heap.size, s5, A5, n5, c5, rfl, g5, b3, (by omega), hG⟩
          · go_simp
            obtain ⟨y2_6, hV, b3, hb9, szy2_6⟩ := boxes1 y2_2 #[.bool false, .slice none 0 0] 34
            rw [hV]
            clear hV
            have gly2_6 : w1.heap.size ≤ y2_2.heap.size := sG
            replace szy2_6 : y2_2.heap.size < y2_6.heap.size := by omega
            replace g4 := g4.below hb9
            replace hG := hG.trans (hb9.mono sG)
            replace sG := hG.size
            clear hb9
            refine hK.out _ _ ⟨(b0.below hG).cell 0 _ rfl, (b0.below hG).cell 1 _ rfl, (b0.below hG).cell 2 _ rfl, (b0.below hG).cell 3 _ rfl, (b0.below hG).cell 4 _ rfl, (b0.below hG).cell 5 _ rfl⟩ (fun hHeld => ?_)
            clear hK K
            (try simp only [List.getElem_toArray, List.getElem_cons_succ, List.getElem_cons_zero, Act.put, List.setIfInBounds_toArray, List.set_cons_zero, List.set_cons_succ])
            refine wpAnyH_ready (rs := [7]) (by kernel_rfl) (by simp) (AllReadyH.cons (o := _) rfl (fun K hK => ?_) AllReadyH.nil)
            go_simp
            go_at_call 87
            refine (nmul_v (i0.below hG) g4 (by omega) (by omega)).mono ?_
            rintro e y2_7 ⟨s5, A5, n5, c5, rfl, g5, hb9⟩
            have szy2_7 := hb9.size
            replace g4 := g4.below hb9
            replace b3 := b3.below hb9
            replace hG := hG.trans (hb9.mono sG)
            replace sG := hG.size
            clear hb9
            clear g4
            go_wp2_with fail
            refine hK.out _ _ ⟨(b0.below hG).cell 0 _ rfl, (b0.below hG).cell 1 _ rfl, (b0.below hG).cell 2 _ rfl, (b0.below hG).cell 3 _ rfl, (b0.below hG).cell 4 _ rfl, (b0.below hG).cell 5 _ rfl⟩ (fun hHeld => ?_)
            clear hK K
            (try simp only [List.getElem_toArray, List.getElem_cons_succ, List.getElem_cons_zero, Act.put, List.setIfInBounds_toArray, List.set_cons_zero, List.set_cons_succ])
            have rb30 := b3.cell 0 _ rfl
            have qb30 := b3.frozen 0
            have rb31 := b3.cell 1 _ rfl
            have qb31 := b3.frozen 1
            refine wpAnyH_ready (rs := [9]) (by kernel_rfl) (by simp) (AllReadyH.cons (o := _) rfl (fun K hK => ?_) AllReadyH.nil)
            go_simp
            clear rb30 qb30
            clear rb31 qb31
            have hg := only_store y2_7 (y2_2.heap.size) (.bool s5) (.slice A5 n5 c5)
            have hB := b3.stored (.bool s5) (.slice A5 n5 c5)
            generalize hX : ((y2_7.setCell ⟨y2_2.heap.size, 0, none⟩ (.bool s5)).setCell ⟨y2_2.heap.size, 1, none⟩ (.slice A5 n5 c5)) = Y2_8 at hg hB ⊢
            clear hX
            replace g5 := g5.kept b3 (by simp [notInt]) hg
            replace b3 := hB
            replace hG := below_only hG hg (by omega) sG
            replace sG := hG.size
            clear hg hB
            refine hK.out _ _ ⟨(b0.below hG).cell 0 _ rfl, (b0.below hG).cell 1 _ rfl, (b0.below hG).cell 2 _ rfl, (b0.below hG).cell 3 _ rfl, (b0.below hG).cell 4 _ rfl, (b0.below hG).cell 5 _ rfl⟩ (fun hHeld => ?_)
            clear hK K
            (try simp only [List.getElem_toArray, List.getElem_cons_succ, List.getElem_cons_zero, Act.put, List.setIfInBounds_toArray, List.set_cons_zero, List.set_cons_succ])
            refine wpAnyH_done (by kernel_rfl) ?_ _
            refine NoPanic.normal ?_
            go_wp2_with fail
            go_meet
            exact ⟨y2_2.heap.size, s5, A5, n5, c5, rfl, g5, b3, (by omega), hG⟩
        · go_simp
          obtain ⟨y2_9, hV, b3, hb9, szy2_9⟩ := boxes1 y2_1 #[.bool false, .slice none 0 0] 34
          rw [hV]
          clear hV
          have gly2_9 : w1.heap.size ≤ y2_1.heap.size := sG
          replace szy2_9 : y2_1.heap.size < y2_9.heap.size := by omega
          replace g3 := g3.below hb9
          replace hG := hG.trans (hb9.mono sG)
          replace sG := hG.size
          clear hb9
          refine hK.out _ _ ⟨(b0.below hG).cell 0 _ rfl, (b0.below hG).cell 1 _ rfl, (b0.below hG).cell 2 _ rfl, (b0.below hG).cell 3 _ rfl, (b0.below hG).cell 4 _ rfl, (b0.below hG).cell 5 _ rfl⟩ (fun hHeld => ?_)
          clear hK K
          (try simp only [List.getElem_toArray, List.getElem_cons_succ, List.getElem_cons_zero, Act.put, List.setIfInBounds_toArray, List.set_cons_zero, List.set_cons_succ])
          refine wpAnyH_ready (rs := [6]) (by kernel_rfl) (by simp) (AllReadyH.cons (o := _) rfl (fun K hK => ?_) AllReadyH.nil)
          go_simp
          go_at_call 88
          refine (nmake_v false g3 (sg_false _)).mono ?_
          rintro e y2_10 ⟨s4, rfl, g4, hb9⟩
          have szy2_10 := hb9.size
          replace g3 := g3.below hb9
          replace b3 := b3.below hb9
          replace hG := hG.trans (hb9.mono sG)
          replace sG := hG.size
          clear hb9
          clear g3
          go_wp2_with fail
          refine hK.out _ _ ⟨(b0.below hG).cell 0 _ rfl, (b0.below hG).cell 1 _ rfl, (b0.below hG).cell 2 _ rfl, (b0.below hG).cell 3 _ rfl, (b0.below hG).cell 4 _ rfl, (b0.below hG).cell 5 _ rfl⟩ (fun hHeld => ?_)
          clear hK K
          (try simp only [List.getElem_toArray, List.getElem_cons_succ, List.getElem_cons_zero, Act.put, List.setIfInBounds_toArray, List.set_cons_zero, List.set_cons_succ])
          refine wpAnyH_ready (rs := [7]) (by kernel_rfl) (by simp) (AllReadyH.cons (o := _) rfl (fun K hK => ?_) AllReadyH.nil)
          go_simp
          go_at_call 87
          refine (nmul_v (i0.below hG) g4 (by omega) (by omega)).mono ?_
          rintro e y2_11 ⟨s5, A5, n5, c5, rfl, g5, hb9⟩
          have szy2_11 := hb9.size
          replace g4 := g4.below hb9
          replace b3 := b3.below hb9
          replace hG := hG.trans (hb9.mono sG)
          replace sG := hG.size
          clear hb9
          clear g4
          go_wp2_with fail
          refine hK.out _ _ ⟨(b0.below hG).cell 0 _ rfl, (b0.below hG).cell 1 _ rfl, (b0.below hG).cell 2 _ rfl, (b0.below hG).cell 3 _ rfl, (b0.below hG).cell 4 _ rfl, (b0.below hG).cell 5 _ rfl⟩ (fun hHeld => ?_)
          clear hK K
          (try simp only [List.getElem_toArray, List.getElem_cons_succ, List.getElem_cons_zero, Act.put, List.setIfInBounds_toArray, List.set_cons_zero, List.set_cons_succ])
          have rb30 := b3.cell 0 _ rfl
          have qb30 := b3.frozen 0
          have rb31 := b3.cell 1 _ rfl
          have qb31 := b3.frozen 1
          refine wpAnyH_ready (rs := [9]) (by kernel_rfl) (by simp) (AllReadyH.cons (o := _) rfl (fun K hK => ?_) AllReadyH.nil)
          go_simp
          clear rb30 qb30
          clear rb31 qb31
          have hg := only_store y2_11 (y2_1.heap.size) (.bool s5) (.slice A5 n5 c5)
          have hB := b3.stored (.bool s5) (.slice A5 n5 c5)
          generalize hX : ((y2_11.setCell ⟨y2_1.heap.size, 0, none⟩ (.bool s5)).setCell ⟨y2_1.heap.size, 1, none⟩ (.slice A5 n5 c5)) = Y2_12 at hg hB ⊢
          clear hX
          replace g5 := g5.kept b3 (by simp [notInt]) hg
          replace b3 := hB
          replace hG := below_only hG hg (by omega) sG
          replace sG := hG.size
          clear hg hB
          refine hK.out _ _ ⟨(b0.below hG).cell 0 _ rfl, (b0.below hG).cell 1 _ rfl, (b0.below hG).cell 2 _ rfl, (b0.below hG).cell 3 _ rfl, (b0.below hG).cell 4 _ rfl, (b0.below hG).cell 5 _ rfl⟩ (fun hHeld => ?_)
          clear hK K
          (try simp only [List.getElem_toArray, List.getElem_cons_succ, List.getElem_cons_zero, Act.put, List.setIfInBounds_toArray, List.set_cons_zero, List.set_cons_succ])
          refine wpAnyH_done (by kernel_rfl) ?_ _
          refine NoPanic.normal ?_
          go_wp2_with fail
          go_meet
          exact ⟨y2_1.heap.size, s5, A5, n5, c5, rfl, g5, b3, (by omega), hG⟩
      · go_simp
        obtain ⟨y2_13, hV, b3, hb9, szy2_13⟩ := boxes1 v2 #[.bool false, .slice none 0 0] 34
        rw [hV]
        clear hV
        have gly2_13 : w1.heap.size ≤ v2.heap.size := sG
        replace szy2_13 : v2.heap.size < y2_13.heap.size := by omega
        replace hG := hG.trans (hb9.mono sG)
        replace sG := hG.size
        clear hb9
        refine hK.out _ _ ⟨(b0.below hG).cell 0 _ rfl, (b0.below hG).cell 1 _ rfl, (b0.below hG).cell 2 _ rfl, (b0.below hG).cell 3 _ rfl, (b0.below hG).cell 4 _ rfl, (b0.below hG).cell 5 _ rfl⟩ (fun hHeld => ?_)
        clear hK K
        (try simp only [List.getElem_toArray, List.getElem_cons_succ, List.getElem_cons_zero, Act.put, List.setIfInBounds_toArray, List.set_cons_zero, List.set_cons_succ])
        refine wpAnyH_ready (rs := [5]) (by kernel_rfl) (by simp) (AllReadyH.cons (o := _) rfl (fun K hK => ?_) AllReadyH.nil)
        go_simp
        go_at_call 77
        refine (nden_v (h'.below hG)).mono ?_
        rintro e y2_14 ⟨A3, n3, c3, rfl, g3, hb9⟩
        have szy2_14 := hb9.size
        replace b3 := b3.below hb9
        replace hG := hG.trans (hb9.mono sG)
        replace sG := hG.size
        clear hb9
        go_wp2_with fail
        refine hK.out _ _ ⟨(b0.below hG).cell 0 _ rfl, (b0.below hG).cell 1 _ rfl, (b0.below hG).cell 2 _ rfl, (b0.below hG).cell 3 _ rfl, (b0.below hG).cell 4 _ rfl, (b0.below hG).cell 5 _ rfl⟩ (fun hHeld => ?_)
        clear hK K
        (try simp only [List.getElem_toArray, List.getElem_cons_succ, List.getElem_cons_zero, Act.put, List.setIfInBounds_toArray, List.set_cons_zero, List.set_cons_succ])
        refine wpAnyH_ready (rs := [6]) (by kernel_rfl) (by simp) (AllReadyH.cons (o := _) rfl (fun K hK => ?_) AllReadyH.nil)
        go_simp
        go_at_call 88
        refine (nmake_v false g3 (sg_false _)).mono ?_
        rintro e y2_15 ⟨s4, rfl, g4, hb9⟩
        have szy2_15 := hb9.size
        replace g3 := g3.below hb9
        replace b3 := b3.below hb9
        replace hG := hG.trans (hb9.mono sG)
        replace sG := hG.size
        clear hb9
        clear g3
        go_wp2_with fail
        refine hK.out _ _ ⟨(b0.below hG).cell 0 _ rfl, (b0.below hG).cell 1 _ rfl, (b0.below hG).cell 2 _ rfl, (b0.below hG).cell 3 _ rfl, (b0.below hG).cell 4 _ rfl, (b0.below hG).cell 5 _ rfl⟩ (fun hHeld => ?_)
        clear hK K
        (try simp only [List.getElem_toArray, List.getElem_cons_succ, List.getElem_cons_zero, Act.put, List.setIfInBounds_toArray, List.set_cons_zero, List.set_cons_succ])
        refine wpAnyH_ready (rs := [7]) (by kernel_rfl) (by simp) (AllReadyH.cons (o := _) rfl (fun K hK => ?_) AllReadyH.nil)
        go_simp
        go_at_call 87
        refine (nmul_v (i0.below hG) g4 (by omega) (by omega)).mono ?_
        rintro e y2_16 ⟨s5, A5, n5, c5, rfl, g5, hb9⟩
        have szy2_16 := hb9.size
        replace g4 := g4.below hb9
        replace b3 := b3.below hb9
        replace hG := hG.trans (hb9.mono sG)
        replace sG := hG.size
        clear hb9
        clear g4
        go_wp2_with fail
        refine hK.out _ _ ⟨(b0.below hG).cell 0 _ rfl, (b0.below hG).cell 1 _ rfl, (b0.below hG).cell 2 _ rfl, (b0.below hG).cell 3 _ rfl, (b0.below hG).cell 4 _ rfl, (b0.below hG).cell 5 _ rfl⟩ (fun hHeld => ?_)
        clear hK K
        (try simp only [List.getElem_toArray, List.getElem_cons_succ, List.getElem_cons_zero, Act.put, List.setIfInBounds_toArray, List.set_cons_zero, List.set_cons_succ])
        have rb30 := b3.cell 0 _ rfl
        have qb30 := b3.frozen 0
        have rb31 := b3.cell 1 _ rfl
        have qb31 := b3.frozen 1
        refine wpAnyH_ready (rs := [9]) (by kernel_rfl) (by simp) (AllReadyH.cons (o := _) rfl (fun K hK => ?_) AllReadyH.nil)
        go_simp
        clear rb30 qb30
        clear rb31 qb31
        have hg := only_store y2_16 (v2.heap.size) (.bool s5) (.slice A5 n5 c5)
        have hB := b3.stored (.bool s5) (.slice A5 n5 c5)
        generalize hX : ((y2_16.setCell ⟨v2.heap.size, 0, none⟩ (.bool s5)).setCell ⟨v2.heap.size, 1, none⟩ (.slice A5 n5 c5)) = Y2_17 at hg hB ⊢
        clear hX
        replace g5 := g5.kept b3 (by simp [notInt]) hg
        replace b3 := hB
        replace hG := below_only hG hg (by omega) sG
        replace sG := hG.size
        clear hg hB
        refine hK.out _ _ ⟨(b0.below hG).cell 0 _ rfl, (b0.below hG).cell 1 _ rfl, (b0.below hG).cell 2 _ rfl, (b0.below hG).cell 3 _ rfl, (b0.below hG).cell 4 _ rfl, (b0.below hG).cell 5 _ rfl⟩ (fun hHeld => ?_)
        clear hK K
        (try simp only [List.getElem_toArray, List.getElem_cons_succ, List.getElem_cons_zero, Act.put, List.setIfInBounds_toArray, List.set_cons_zero, List.set_cons_succ])
        refine wpAnyH_done (by kernel_rfl) ?_ _
        refine NoPanic.normal ?_
        go_wp2_with fail
        go_meet
        exact ⟨v2.heap.size, s5, A5, n5, c5, rfl, g5, b3, (by omega), hG⟩
    obtain ⟨g2_0, s5, A5, n5, c5, rfl, g5, b3, glg2_0, hG⟩ := hcut
    replace h := h.below hG
    replace h' := h'.below hG
    replace i0 := i0.below hG
    replace i1 := i1.below hG
    replace b0 := b0.below hG
    replace b9 := b9.below hG
    replace H0 := H0.trans (hG.mono H0.size)
    clear hG
    go_wp2_with fail
    have lcb0_4 := b0.lt
    have lcb9_4 := b9.lt
    have lcb3_4 := b3.lt
    go_cut [4] from 10 (fun u4_0 wx => ∃ g4_0 s8 A8 n8 c8, u4_0 = .pointer (some ⟨g4_0, 0, none⟩) ∧ NI wx s8 (.slice A8 n8 c8) (q1.num * (q0.den : Int)) (L + max L 1) ∧ Box wx g4_0 #[.bool s8, .slice A8 n8 c8] 34 ∧ wc.heap.size ≤ g4_0 ∧ Below wc.heap.size wc wx)
    case first =>
      have hG := drawn_below wc
      refine wp_region_noPanic ?_
      refine wp_region_held_drew (S := (fun V => V.cell? ⟨w.heap.size, 0, none⟩ = some (.bool s0) ∧ V.cell? ⟨w.heap.size, 1, none⟩ = some (.slice A0 n0 c0) ∧ V.cell? ⟨w.heap.size, 2, none⟩ = some (.slice D0 m0 e0) ∧ V.cell? ⟨w.heap.size, 3, none⟩ = some (.bool s1) ∧ V.cell? ⟨w.heap.size, 4, none⟩ = some (.slice A1 n1 c1) ∧ V.cell? ⟨w.heap.size, 5, none⟩ = some (.slice D1 m1 e1))) (by kernel_rfl) ⟨(b0.below hG).cell 0 _ rfl, (b0.below hG).cell 1 _ rfl, (b0.below hG).cell 2 _ rfl, (b0.below hG).cell 3 _ rfl, (b0.below hG).cell 4 _ rfl, (b0.below hG).cell 5 _ rfl⟩ (fun hHeld => ?_)
      generalize wc.drew = v4 at hG hHeld ⊢
      have sG := hG.size
      refine wpAnyH_take (i := 0) (v := ?_) rfl (by kernel_rfl) (by kernel_rfl) (by kernel_rfl) (fun _ _ _ h => h) (Or.inl ⟨by rfl, ?_⟩) (by assumption) ?_
      rotate_left
      · (intro w hSw; (try dsimp only at hSw); go_simp; (try with_reducible rfl))
      (try simp only [List.getElem_toArray, List.getElem_cons_zero, Act.put, List.setIfInBounds_toArray, List.set_cons_zero, List.set_cons_succ])
      refine wpAnyH_take (i := 1) (v := ?_) rfl (by kernel_rfl) (by kernel_rfl) (by kernel_rfl) (fun _ _ _ h => h) (Or.inl ⟨by rfl, ?_⟩) (by assumption) ?_
      rotate_left
      · (intro w hSw; (try dsimp only at hSw); go_simp; (try with_reducible rfl))
      (try simp only [List.getElem_toArray, List.getElem_cons_succ, List.getElem_cons_zero, Act.put, List.setIfInBounds_toArray, List.set_cons_zero, List.set_cons_succ])
      refine wpAnyH_take (i := 2) (v := ?_) rfl (by kernel_rfl) (by kernel_rfl) (by kernel_rfl) (fun _ _ _ h => h) (Or.inl ⟨by rfl, ?_⟩) (by assumption) ?_
      rotate_left
      · (intro w hSw; (try dsimp only at hSw); go_simp; (try with_reducible rfl))
      (try simp only [List.getElem_toArray, List.getElem_cons_succ, List.getElem_cons_zero, Act.put, List.setIfInBounds_toArray, List.set_cons_zero, List.set_cons_succ])
      refine wpAnyH_take (i := 3) (v := ?_) rfl (by kernel_rfl) (by kernel_rfl) (by kernel_rfl) (fun _ _ _ h => h) (Or.inl ⟨by rfl, ?_⟩) (by assumption) ?_
      rotate_left
      · (intro w hSw; (try dsimp only at hSw); go_simp; (try with_reducible rfl))
      (try simp only [List.getElem_toArray, List.getElem_cons_succ, List.getElem_cons_zero, Act.put, List.setIfInBounds_toArray, List.set_cons_zero, List.set_cons_succ])
      refine wpAnyH_take (i := 4) (v := ?_) rfl (by kernel_rfl) (by kernel_rfl) (by kernel_rfl) (fun _ _ _ h => h) (Or.inl ⟨by rfl, ?_⟩) (by assumption) ?_
      rotate_left
      · (intro w hSw; (try dsimp only at hSw); go_simp; (try with_reducible rfl))
      (try simp only [List.getElem_toArray, List.getElem_cons_succ, List.getElem_cons_zero, Act.put, List.setIfInBounds_toArray, List.set_cons_zero, List.set_cons_succ])
      refine wpAnyH_ready (rs := [5, 8]) (by kernel_rfl) (by simp) (AllReadyH.cons (o := _) rfl (fun K hK => ?_) (AllReadyH.cons (o := _) rfl (fun K hK => ?_) AllReadyH.nil))
      · go_simp
        go_at_call 77
        refine (nden_v (h.below hG)).mono ?_
        rintro e y4_1 ⟨A6, n6, c6, rfl, g6, hb9⟩
        have szy4_1 := hb9.size
        replace hG := hG.trans (hb9.mono sG)
        replace sG := hG.size
        clear hb9
        go_wp2_with fail
        refine hK.out _ _ ⟨(b0.below hG).cell 0 _ rfl, (b0.below hG).cell 1 _ rfl, (b0.below hG).cell 2 _ rfl, (b0.below hG).cell 3 _ rfl, (b0.below hG).cell 4 _ rfl, (b0.below hG).cell 5 _ rfl⟩ (fun hHeld => ?_)
        clear hK K
        (try simp only [List.getElem_toArray, List.getElem_cons_succ, List.getElem_cons_zero, Act.put, List.setIfInBounds_toArray, List.set_cons_zero, List.set_cons_succ])
        refine wpAnyH_ready (rs := [6, 8]) (by kernel_rfl) (by simp) (AllReadyH.cons (o := _) rfl (fun K hK => ?_) (AllReadyH.cons (o := _) rfl (fun K hK => ?_) AllReadyH.nil))
        · go_simp
          go_at_call 88
          refine (nmake_v false g6 (sg_false _)).mono ?_
          rintro e y4_2 ⟨s7, rfl, g7, hb9⟩
          have szy4_2 := hb9.size
          replace g6 := g6.below hb9
          replace hG := hG.trans (hb9.mono sG)
          replace sG := hG.size
          clear hb9
          clear g6
          go_wp2_with fail
          refine hK.out _ _ ⟨(b0.below hG).cell 0 _ rfl, (b0.below hG).cell 1 _ rfl, (b0.below hG).cell 2 _ rfl, (b0.below hG).cell 3 _ rfl, (b0.below hG).cell 4 _ rfl, (b0.below hG).cell 5 _ rfl⟩ (fun hHeld => ?_)
          clear hK K
          (try simp only [List.getElem_toArray, List.getElem_cons_succ, List.getElem_cons_zero, Act.put, List.setIfInBounds_toArray, List.set_cons_zero, List.set_cons_succ])
          refine wpAnyH_ready (rs := [7, 8]) (by kernel_rfl) (by simp) (AllReadyH.cons (o := _) rfl (fun K hK => ?_) (AllReadyH.cons (o := _) rfl (fun K hK => ?_) AllReadyH.nil))
          · go_simp
            go_at_call 87
            refine (nmul_v (i1.below hG) g7 (by omega) (by omega)).mono ?_
            rintro e y4_3 ⟨s8, A8, n8, c8, rfl, g8, hb9⟩
            have szy4_3 := hb9.size
            replace g7 := g7.below hb9
            replace hG := hG.trans (hb9.mono sG)
            replace sG := hG.size
            clear hb9
            clear g7
            go_wp2_with fail
            refine hK.out _ _ ⟨(b0.below hG).cell 0 _ rfl, (b0.below hG).cell 1 _ rfl, (b0.below hG).cell 2 _ rfl, (b0.below hG).cell 3 _ rfl, (b0.below hG).cell 4 _ rfl, (b0.below hG).cell 5 _ rfl⟩ (fun hHeld => ?_)
            clear hK K
            (try simp only [List.getElem_toArray, List.getElem_cons_succ, List.getElem_cons_zero, Act.put, List.setIfInBounds_toArray, List.set_cons_zero, List.set_cons_succ])
            refine wpAnyH_ready (rs := [8]) (by kernel_rfl) (by simp) (AllReadyH.cons (o := _) rfl (fun K hK => ?_) AllReadyH.nil)
            go_simp
            obtain ⟨y4_4, hV, b4, hb9, szy4_4⟩ := boxes1 y4_3 #[.bool false, .slice none 0 0] 34
            rw [hV]
            clear hV
            have gly4_4 : wc.heap.size ≤ y4_3.heap.size := sG
            replace szy4_4 : y4_3.heap.size < y4_4.heap.size := by omega
            replace g8 := g8.below hb9
            replace hG := hG.trans (hb9.mono sG)
            replace sG := hG.size
            clear hb9
            refine hK.out _ _ ⟨(b0.below hG).cell 0 _ rfl, (b0.below hG).cell 1 _ rfl, (b0.below hG).cell 2 _ rfl, (b0.below hG).cell 3 _ rfl, (b0.below hG).cell 4 _ rfl, (b0.below hG).cell 5 _ rfl⟩ (fun hHeld => ?_)
            clear hK K
            (try simp only [List.getElem_toArray, List.getElem_cons_succ, List.getElem_cons_zero, Act.put, List.setIfInBounds_toArray, List.set_cons_zero, List.set_cons_succ])
            have rb40 := b4.cell 0 _ rfl
            have qb40 := b4.frozen 0
            have rb41 := b4.cell 1 _ rfl
            have qb41 := b4.frozen 1
            refine wpAnyH_ready (rs := [9]) (by kernel_rfl) (by simp) (AllReadyH.cons (o := _) rfl (fun K hK => ?_) AllReadyH.nil)
            go_simp
            clear rb40 qb40
            clear rb41 qb41
            have hg := only_store y4_4 (y4_3.heap.size) (.bool s8) (.slice A8 n8 c8)
            have hB := b4.stored (.bool s8) (.slice A8 n8 c8)
            generalize hX : ((y4_4.setCell ⟨y4_3.heap.size, 0, none⟩ (.bool s8)).setCell ⟨y4_3.heap.size, 1, none⟩ (.slice A8 n8 c8)) = Y4_5 at hg hB ⊢
            clear hX
            replace g8 := g8.kept b4 (by simp [notInt]) hg
            replace b4 := hB
            replace hG := below_only hG hg (by omega) sG
            replace sG := hG.size
            clear hg hB
            refine hK.out _ _ ⟨(b0.below hG).cell 0 _ rfl, (b0.below hG).cell 1 _ rfl, (b0.below hG).cell 2 _ rfl, (b0.below hG).cell 3 _ rfl, (b0.below hG).cell 4 _ rfl, (b0.below hG).cell 5 _ rfl⟩ (fun hHeld => ?_)
            clear hK K
            (try simp only [List.getElem_toArray, List.getElem_cons_succ, List.getElem_cons_zero, Act.put, List.setIfInBounds_toArray, List.set_cons_zero, List.set_cons_succ])
            refine wpAnyH_done (by kernel_rfl) ?_ _
            refine NoPanic.normal ?_
            go_wp2_with fail
            go_meet
            exact ⟨y4_3.heap.size, s8, A8, n8, c8, rfl, g8, b4, (by omega), hG⟩
          · go_simp
            obtain ⟨y4_6, hV, b4, hb9, szy4_6⟩ := boxes1 y4_2 #[.bool false, .slice none 0 0] 34
            rw [hV]
            clear hV
            have gly4_6 : wc.heap.size ≤ y4_2.heap.size := sG
            replace szy4_6 : y4_2.heap.size < y4_6.heap.size := by omega
            replace g7 := g7.below hb9
            replace hG := hG.trans (hb9.mono sG)
            replace sG := hG.size
            clear hb9
            refine hK.out _ _ ⟨(b0.below hG).cell 0 _ rfl, (b0.below hG).cell 1 _ rfl, (b0.below hG).cell 2 _ rfl, (b0.below hG).cell 3 _ rfl, (b0.below hG).cell 4 _ rfl, (b0.below hG).cell 5 _ rfl⟩ (fun hHeld => ?_)
            clear hK K
            (try simp only [List.getElem_toArray, List.getElem_cons_succ, List.getElem_cons_zero, Act.put, List.setIfInBounds_toArray, List.set_cons_zero, List.set_cons_succ])
            refine wpAnyH_ready (rs := [7]) (by kernel_rfl) (by simp) (AllReadyH.cons (o := _) rfl (fun K hK => ?_) AllReadyH.nil)
            go_simp
            go_at_call 87
            refine (nmul_v (i1.below hG) g7 (by omega) (by omega)).mono ?_
            rintro e y4_7 ⟨s8, A8, n8, c8, rfl, g8, hb9⟩
            have szy4_7 := hb9.size
            replace g7 := g7.below hb9
            replace b4 := b4.below hb9
            replace hG := hG.trans (hb9.mono sG)
            replace sG := hG.size
            clear hb9
            clear g7
            go_wp2_with fail
            refine hK.out _ _ ⟨(b0.below hG).cell 0 _ rfl, (b0.below hG).cell 1 _ rfl, (b0.below hG).cell 2 _ rfl, (b0.below hG).cell 3 _ rfl, (b0.below hG).cell 4 _ rfl, (b0.below hG).cell 5 _ rfl⟩ (fun hHeld => ?_)
            clear hK K
            (try simp only [List.getElem_toArray, List.getElem_cons_succ, List.getElem_cons_zero, Act.put, List.setIfInBounds_toArray, List.set_cons_zero, List.set_cons_succ])
            have rb40 := b4.cell 0 _ rfl
            have qb40 := b4.frozen 0
            have rb41 := b4.cell 1 _ rfl
            have qb41 := b4.frozen 1
            refine wpAnyH_ready (rs := [9]) (by kernel_rfl) (by simp) (AllReadyH.cons (o := _) rfl (fun K hK => ?_) AllReadyH.nil)
            go_simp
            clear rb40 qb40
            clear rb41 qb41
            have hg := only_store y4_7 (y4_2.heap.size) (.bool s8) (.slice A8 n8 c8)
            have hB := b4.stored (.bool s8) (.slice A8 n8 c8)
            generalize hX : ((y4_7.setCell ⟨y4_2.heap.size, 0, none⟩ (.bool s8)).setCell ⟨y4_2.heap.size, 1, none⟩ (.slice A8 n8 c8)) = Y4_8 at hg hB ⊢
            clear hX
            replace g8 := g8.kept b4 (by simp [notInt]) hg
            replace b4 := hB
            replace hG := below_only hG hg (by omega) sG
            replace sG := hG.size
            clear hg hB
            refine hK.out _ _ ⟨(b0.below hG).cell 0 _ rfl, (b0.below hG).cell 1 _ rfl, (b0.below hG).cell 2 _ rfl, (b0.below hG).cell 3 _ rfl, (b0.below hG).cell 4 _ rfl, (b0.below hG).cell 5 _ rfl⟩ (fun hHeld => ?_)
            clear hK K
            (try simp only [List.getElem_toArray, List.getElem_cons_succ, List.getElem_cons_zero, Act.put, List.setIfInBounds_toArray, List.set_cons_zero, List.set_cons_succ])
            refine wpAnyH_done (by kernel_rfl) ?_ _
            refine NoPanic.normal ?_
            go_wp2_with fail
            go_meet
            exact ⟨y4_2.heap.size, s8, A8, n8, c8, rfl, g8, b4, (by omega), hG⟩
        · go_simp
          obtain ⟨y4_9, hV, b4, hb9, szy4_9⟩ := boxes1 y4_1 #[.bool false, .slice none 0 0] 34
          rw [hV]
          clear hV
          have gly4_9 : wc.heap.size ≤ y4_1.heap.size := sG
          replace szy4_9 : y4_1.heap.size < y4_9.heap.size := by omega
          replace g6 := g6.below hb9
          replace hG := hG.trans (hb9.mono sG)
          replace sG := hG.size
          clear hb9
          refine hK.out _ _ ⟨(b0.below hG).cell 0 _ rfl, (b0.below hG).cell 1 _ rfl, (b0.below hG).cell 2 _ rfl, (b0.below hG).cell 3 _ rfl, (b0.below hG).cell 4 _ rfl, (b0.below hG).cell 5 _ rfl⟩ (fun hHeld => ?_)
          clear hK K
          (try simp only [List.getElem_toArray, List.getElem_cons_succ, List.getElem_cons_zero, Act.put, List.setIfInBounds_toArray, List.set_cons_zero, List.set_cons_succ])
          refine wpAnyH_ready (rs := [6]) (by kernel_rfl) (by simp) (AllReadyH.cons (o := _) rfl (fun K hK => ?_) AllReadyH.nil)
          go_simp
          go_at_call 88
          refine (nmake_v false g6 (sg_false _)).mono ?_
          rintro e y4_10 ⟨s7, rfl, g7, hb9⟩
          have szy4_10 := hb9.size
          replace g6 := g6.below hb9
          replace b4 := b4.below hb9
          replace hG := hG.trans (hb9.mono sG)
          replace sG := hG.size
          clear hb9
          clear g6
          go_wp2_with fail
          refine hK.out _ _ ⟨(b0.below hG).cell 0 _ rfl, (b0.below hG).cell 1 _ rfl, (b0.below hG).cell 2 _ rfl, (b0.below hG).cell 3 _ rfl, (b0.below hG).cell 4 _ rfl, (b0.below hG).cell 5 _ rfl⟩ (fun hHeld => ?_)
          clear hK K
          (try simp only [List.getElem_toArray, List.getElem_cons_succ, List.getElem_cons_zero, Act.put, List.setIfInBounds_toArray, List.set_cons_zero, List.set_cons_succ])
          refine wpAnyH_ready (rs := [7]) (by kernel_rfl) (by simp) (AllReadyH.cons (o := _) rfl (fun K hK => ?_) AllReadyH.nil)
          go_simp
          go_at_call 87
          refine (nmul_v (i1.below hG) g7 (by omega) (by omega)).mono ?_
          rintro e y4_11 ⟨s8, A8, n8, c8, rfl, g8, hb9⟩
          have szy4_11 := hb9.size
          replace g7 := g7.below hb9
          replace b4 := b4.below hb9
          replace hG := hG.trans (hb9.mono sG)
          replace sG := hG.size
          clear hb9
          clear g7
          go_wp2_with fail
          refine hK.out _ _ ⟨(b0.below hG).cell 0 _ rfl, (b0.below hG).cell 1 _ rfl, (b0.below hG).cell 2 _ rfl, (b0.below hG).cell 3 _ rfl, (b0.below hG).cell 4 _ rfl, (b0.below hG).cell 5 _ rfl⟩ (fun hHeld => ?_)
          clear hK K
          (try simp only [List.getElem_toArray, List.getElem_cons_succ, List.getElem_cons_zero, Act.put, List.setIfInBounds_toArray, List.set_cons_zero, List.set_cons_succ])
          have rb40 := b4.cell 0 _ rfl
          have qb40 := b4.frozen 0
          have rb41 := b4.cell 1 _ rfl
          have qb41 := b4.frozen 1
          refine wpAnyH_ready (rs := [9]) (by kernel_rfl) (by simp) (AllReadyH.cons (o := _) rfl (fun K hK => ?_) AllReadyH.nil)
          go_simp
          clear rb40 qb40
          clear rb41 qb41
          have hg := only_store y4_11 (y4_1.heap.size) (.bool s8) (.slice A8 n8 c8)
          have hB := b4.stored (.bool s8) (.slice A8 n8 c8)
          generalize hX : ((y4_11.setCell ⟨y4_1.heap.size, 0, none⟩ (.bool s8)).setCell ⟨y4_1.heap.size, 1, none⟩ (.slice A8 n8 c8)) = Y4_12 at hg hB ⊢
          clear hX
          replace g8 := g8.kept b4 (by simp [notInt]) hg
          replace b4 := hB
          replace hG := below_only hG hg (by omega) sG
          replace sG := hG.size
          clear hg hB
          refine hK.out _ _ ⟨(b0.below hG).cell 0 _ rfl, (b0.below hG).cell 1 _ rfl, (b0.below hG).cell 2 _ rfl, (b0.below hG).cell 3 _ rfl, (b0.below hG).cell 4 _ rfl, (b0.below hG).cell 5 _ rfl⟩ (fun hHeld => ?_)
          clear hK K
          (try simp only [List.getElem_toArray, List.getElem_cons_succ, List.getElem_cons_zero, Act.put, List.setIfInBounds_toArray, List.set_cons_zero, List.set_cons_succ])
          refine wpAnyH_done (by kernel_rfl) ?_ _
          refine NoPanic.normal ?_
          go_wp2_with fail
          go_meet
          exact ⟨y4_1.heap.size, s8, A8, n8, c8, rfl, g8, b4, (by omega), hG⟩
      · go_simp
        obtain ⟨y4_13, hV, b4, hb9, szy4_13⟩ := boxes1 v4 #[.bool false, .slice none 0 0] 34
        rw [hV]
        clear hV
        have gly4_13 : wc.heap.size ≤ v4.heap.size := sG
        replace szy4_13 : v4.heap.size < y4_13.heap.size := by omega
        replace hG := hG.trans (hb9.mono sG)
        replace sG := hG.size
        clear hb9
        refine hK.out _ _ ⟨(b0.below hG).cell 0 _ rfl, (b0.below hG).cell 1 _ rfl, (b0.below hG).cell 2 _ rfl, (b0.below hG).cell 3 _ rfl, (b0.below hG).cell 4 _ rfl, (b0.below hG).cell 5 _ rfl⟩ (fun hHeld => ?_)
        clear hK K
        (try simp only [List.getElem_toArray, List.getElem_cons_succ, List.getElem_cons_zero, Act.put, List.setIfInBounds_toArray, List.set_cons_zero, List.set_cons_succ])
        refine wpAnyH_ready (rs := [5]) (by kernel_rfl) (by simp) (AllReadyH.cons (o := _) rfl (fun K hK => ?_) AllReadyH.nil)
        go_simp
        go_at_call 77
        refine (nden_v (h.below hG)).mono ?_
        rintro e y4_14 ⟨A6, n6, c6, rfl, g6, hb9⟩
        have szy4_14 := hb9.size
        replace b4 := b4.below hb9
        replace hG := hG.trans (hb9.mono sG)
        replace sG := hG.size
        clear hb9
        go_wp2_with fail
        refine hK.out _ _ ⟨(b0.below hG).cell 0 _ rfl, (b0.below hG).cell 1 _ rfl, (b0.below hG).cell 2 _ rfl, (b0.below hG).cell 3 _ rfl, (b0.below hG).cell 4 _ rfl, (b0.below hG).cell 5 _ rfl⟩ (fun hHeld => ?_)
        clear hK K
        (try simp only [List.getElem_toArray, List.getElem_cons_succ, List.getElem_cons_zero, Act.put, List.setIfInBounds_toArray, List.set_cons_zero, List.set_cons_succ])
        refine wpAnyH_ready (rs := [6]) (by kernel_rfl) (by simp) (AllReadyH.cons (o := _) rfl (fun K hK => ?_) AllReadyH.nil)
        go_simp
        go_at_call 88
        refine (nmake_v false g6 (sg_false _)).mono ?_
        rintro e y4_15 ⟨s7, rfl, g7, hb9⟩
        have szy4_15 := hb9.size
        replace g6 := g6.below hb9
        replace b4 := b4.below hb9
        replace hG := hG.trans (hb9.mono sG)
        replace sG := hG.size
        clear hb9
        clear g6
        go_wp2_with fail
        refine hK.out _ _ ⟨(b0.below hG).cell 0 _ rfl, (b0.below hG).cell 1 _ rfl, (b0.below hG).cell 2 _ rfl, (b0.below hG).cell 3 _ rfl, (b0.below hG).cell 4 _ rfl, (b0.below hG).cell 5 _ rfl⟩ (fun hHeld => ?_)
        clear hK K
        (try simp only [List.getElem_toArray, List.getElem_cons_succ, List.getElem_cons_zero, Act.put, List.setIfInBounds_toArray, List.set_cons_zero, List.set_cons_succ])
        refine wpAnyH_ready (rs := [7]) (by kernel_rfl) (by simp) (AllReadyH.cons (o := _) rfl (fun K hK => ?_) AllReadyH.nil)
        go_simp
        go_at_call 87
        refine (nmul_v (i1.below hG) g7 (by omega) (by omega)).mono ?_
        rintro e y4_16 ⟨s8, A8, n8, c8, rfl, g8, hb9⟩
        have szy4_16 := hb9.size
        replace g7 := g7.below hb9
        replace b4 := b4.below hb9
        replace hG := hG.trans (hb9.mono sG)
        replace sG := hG.size
        clear hb9
        clear g7
        go_wp2_with fail
        refine hK.out _ _ ⟨(b0.below hG).cell 0 _ rfl, (b0.below hG).cell 1 _ rfl, (b0.below hG).cell 2 _ rfl, (b0.below hG).cell 3 _ rfl, (b0.below hG).cell 4 _ rfl, (b0.below hG).cell 5 _ rfl⟩ (fun hHeld => ?_)
        clear hK K
        (try simp only [List.getElem_toArray, List.getElem_cons_succ, List.getElem_cons_zero, Act.put, List.setIfInBounds_toArray, List.set_cons_zero, List.set_cons_succ])
        have rb40 := b4.cell 0 _ rfl
        have qb40 := b4.frozen 0
        have rb41 := b4.cell 1 _ rfl
        have qb41 := b4.frozen 1
        refine wpAnyH_ready (rs := [9]) (by kernel_rfl) (by simp) (AllReadyH.cons (o := _) rfl (fun K hK => ?_) AllReadyH.nil)
        go_simp
        clear rb40 qb40
        clear rb41 qb41
        have hg := only_store y4_16 (v4.heap.size) (.bool s8) (.slice A8 n8 c8)
        have hB := b4.stored (.bool s8) (.slice A8 n8 c8)
        generalize hX : ((y4_16.setCell ⟨v4.heap.size, 0, none⟩ (.bool s8)).setCell ⟨v4.heap.size, 1, none⟩ (.slice A8 n8 c8)) = Y4_17 at hg hB ⊢
        clear hX
        replace g8 := g8.kept b4 (by simp [notInt]) hg
        replace b4 := hB
        replace hG := below_only hG hg (by omega) sG
        replace sG := hG.size
        clear hg hB
        refine hK.out _ _ ⟨(b0.below hG).cell 0 _ rfl, (b0.below hG).cell 1 _ rfl, (b0.below hG).cell 2 _ rfl, (b0.below hG).cell 3 _ rfl, (b0.below hG).cell 4 _ rfl, (b0.below hG).cell 5 _ rfl⟩ (fun hHeld => ?_)
        clear hK K
        (try simp only [List.getElem_toArray, List.getElem_cons_succ, List.getElem_cons_zero, Act.put, List.setIfInBounds_toArray, List.set_cons_zero, List.set_cons_succ])
        refine wpAnyH_done (by kernel_rfl) ?_ _
        refine NoPanic.normal ?_
        go_wp2_with fail
        go_meet
        exact ⟨v4.heap.size, s8, A8, n8, c8, rfl, g8, b4, (by omega), hG⟩
    obtain ⟨g4_0, s8, A8, n8, c8, rfl, g8, b4, glg4_0, hG⟩ := hcut
    replace h := h.below hG
    replace h' := h'.below hG
    replace i0 := i0.below hG
    replace i1 := i1.below hG
    replace g5 := g5.below hG
    replace b0 := b0.below hG
    replace b9 := b9.below hG
    replace b3 := b3.below hG
    replace H0 := H0.trans (hG.mono H0.size)
    clear hG
    clear h
    clear h'
    clear i0
    clear i1
    have x5 := Lib.hid g5.2
    have x8 := Lib.hid g8.2
    replace g5 := g5.1
    replace g8 := g8.1
    have cb30 := b3.cell 0 _ rfl
    have cb31 := b3.cell 1 _ rfl
    have cb40 := b4.cell 0 _ rfl
    have cb41 := b4.cell 1 _ rfl
    go_wp2_with fail
    clear cb30 cb31 cb40 cb41
    refine (ncommon_v g5 g8 (by omega) (by omega)).mono ?_
    rintro e w6 ⟨A9, n9, c9, rfl, g9, hb⟩
    replace g5 := g5.below hb
    replace g8 := g8.below hb
    replace b0 := b0.below hb
    replace b9 := b9.below hb
    replace b3 := b3.below hb
    replace b4 := b4.below hb
    replace H0 := H0.trans (hb.mono H0.size)
    clear hb
    have cb30 := b3.cell 0 _ rfl
    have cb31 := b3.cell 1 _ rfl
    have cb40 := b4.cell 0 _ rfl
    have cb41 := b4.cell 1 _ rfl
    go_wp2_with fail
    clear cb30 cb31 cb40 cb41
    refine (ndivide_v g5 g9 HG.out (by omega)).mono ?_
    rintro e w7 ⟨A10, n10, c10, A11, n11, c11, rfl, g10, _, hb⟩
    replace g5 := g5.below hb
    replace g8 := g8.below hb
    replace g9 := g9.below hb
    replace b0 := b0.below hb
    replace b9 := b9.below hb
    replace b3 := b3.below hb
    replace b4 := b4.below hb
    replace H0 := H0.trans (hb.mono H0.size)
    clear hb
    have cb30 := b3.cell 0 _ rfl
    have cb31 := b3.cell 1 _ rfl
    have cb40 := b4.cell 0 _ rfl
    have cb41 := b4.cell 1 _ rfl
    go_wp2_with fail
    clear cb30 cb31 cb40 cb41
    refine (ndivide_v g8 g9 HG.out (by omega)).mono ?_
    rintro e w8 ⟨A12, n12, c12, A13, n13, c13, rfl, g12, _, hb⟩
    replace g5 := g5.below hb
    replace g8 := g8.below hb
    replace g9 := g9.below hb
    replace g10 := g10.below hb
    replace b0 := b0.below hb
    replace b9 := b9.below hb
    replace b3 := b3.below hb
    replace b4 := b4.below hb
    replace H0 := H0.trans (hb.mono H0.size)
    clear hb
    clear g5
    clear g8
    clear g9
    go_wp2_with fail
    have hD := drawn_below w8
    replace g10 := g10.below hD
    replace g12 := g12.below hD
    replace b0 := b0.below hD
    replace b9 := b9.below hD
    replace b3 := b3.below hD
    replace b4 := b4.below hD
    replace H0 := H0.trans (hD.mono H0.size)
    clear hD
    refine wp_region_noPanic ?_
    refine wp_region_held_drew (S := (fun V => V.cell? ⟨g2_0, 0, none⟩ = some (.bool s5) ∧ V.cell? ⟨g2_0, 1, none⟩ = some (.slice A5 n5 c5) ∧ V.cell? ⟨g4_0, 0, none⟩ = some (.bool s8) ∧ V.cell? ⟨g4_0, 1, none⟩ = some (.slice A8 n8 c8))) (by kernel_rfl) ⟨b3.cell 0 _ rfl, b3.cell 1 _ rfl, b4.cell 0 _ rfl, b4.cell 1 _ rfl⟩ (fun hHeld => ?_)
    generalize w8.drew = v9 at H0 hHeld g10 g12 b0 b9 b3 b4 ⊢
    refine wpAnyH_take (i := 0) (v := ?_) rfl (by kernel_rfl) (by kernel_rfl) (by kernel_rfl) (fun _ _ _ h => h) (Or.inl ⟨by rfl, ?_⟩) (by assumption) ?_
    rotate_left
    · (intro w hSw; (try dsimp only at hSw); go_simp; (try with_reducible rfl))
    (try simp only [List.getElem_toArray, List.getElem_cons_zero, Act.put, List.setIfInBounds_toArray, List.set_cons_zero, List.set_cons_succ])
    refine wpAnyH_take (i := 2) (v := ?_) rfl (by kernel_rfl) (by kernel_rfl) (by kernel_rfl) (fun _ _ _ h => h) (Or.inl ⟨by rfl, ?_⟩) (by assumption) ?_
    rotate_left
    · (intro w hSw; (try dsimp only at hSw); go_simp; (try with_reducible rfl))
    (try simp only [List.getElem_toArray, List.getElem_cons_succ, List.getElem_cons_zero, Act.put, List.setIfInBounds_toArray, List.set_cons_zero, List.set_cons_succ])
    refine wpAnyH_take (i := 5) (v := ?_) rfl (by kernel_rfl) (by kernel_rfl) (by kernel_rfl) (fun _ _ _ h => h) (Or.inl ⟨by rfl, ?_⟩) (by assumption) ?_
    rotate_left
    · (intro w hSw; (try dsimp only at hSw); go_simp; (try with_reducible rfl))
    (try simp only [List.getElem_toArray, List.getElem_cons_succ, List.getElem_cons_zero, Act.put, List.setIfInBounds_toArray, List.set_cons_zero, List.set_cons_succ])
    refine wpAnyH_take (i := 7) (v := ?_) rfl (by kernel_rfl) (by kernel_rfl) (by kernel_rfl) (fun _ _ _ h => h) (Or.inl ⟨by rfl, ?_⟩) (by assumption) ?_
    rotate_left
    · (intro w hSw; (try dsimp only at hSw); go_simp; (try with_reducible rfl))
    (try simp only [List.getElem_toArray, List.getElem_cons_succ, List.getElem_cons_zero, Act.put, List.setIfInBounds_toArray, List.set_cons_zero, List.set_cons_succ])
    refine wpAnyH_take (i := 1) (v := ?_) rfl (by kernel_rfl) (by kernel_rfl) (by kernel_rfl) (fun _ _ _ h => h) (Or.inl ⟨by rfl, ?_⟩) (by assumption) ?_
    rotate_left
    · (intro w hSw; (try dsimp only at hSw); go_simp; (try with_reducible rfl))
    (try simp only [List.getElem_toArray, List.getElem_cons_succ, List.getElem_cons_zero, Act.put, List.setIfInBounds_toArray, List.set_cons_zero, List.set_cons_succ])
    refine wpAnyH_take (i := 6) (v := ?_) rfl (by kernel_rfl) (by kernel_rfl) (by kernel_rfl) (fun _ _ _ h => h) (Or.inl ⟨by rfl, ?_⟩) (by assumption) ?_
    rotate_left
    · (intro w hSw; (try dsimp only at hSw); go_simp; (try with_reducible rfl))
    (try simp only [List.getElem_toArray, List.getElem_cons_succ, List.getElem_cons_zero, Act.put, List.setIfInBounds_toArray, List.set_cons_zero, List.set_cons_succ])
    refine wpAnyH_ready (rs := [3]) (by kernel_rfl) (by simp) (AllReadyH.cons (o := _) rfl (fun K hK => ?_) AllReadyH.nil)
    go_simp
    go_at_call 88
    refine (nmake_v _ g10 (show sg s5 (_ / _) = q0.num * (q1.den : Int) / ((Nat.gcd (q0.num * (q1.den : Int)).natAbs (q1.num * (q0.den : Int)).natAbs : Nat) : Int) from by rw [x5.out]; exact sg_div (gcd_dl _ _) HN2.out)).mono ?_
    rintro e w10 ⟨s14, rfl, g14, hb⟩
    replace g10 := g10.below hb
    replace g12 := g12.below hb
    replace b0 := b0.below hb
    replace b9 := b9.below hb
    replace b3 := b3.below hb
    replace b4 := b4.below hb
    replace H0 := H0.trans (hb.mono H0.size)
    clear hb
    clear g10
    go_wp2_with fail
    refine hK.out _ _ ⟨b3.cell 0 _ rfl, b3.cell 1 _ rfl, b4.cell 0 _ rfl, b4.cell 1 _ rfl⟩ (fun hHeld => ?_)
    clear hK K
    (try simp only [List.getElem_toArray, List.getElem_cons_succ, List.getElem_cons_zero, Act.put, List.setIfInBounds_toArray, List.set_cons_zero, List.set_cons_succ])
    refine wpAnyH_take (i := 4) (v := ?_) rfl (by kernel_rfl) (by kernel_rfl) (by kernel_rfl) (fun _ _ _ h => h) (Or.inl ⟨by rfl, ?_⟩) (by assumption) ?_
    rotate_left
    · (intro w hSw; (try dsimp only at hSw); go_simp; (try with_reducible rfl))
    (try simp only [List.getElem_toArray, List.getElem_cons_succ, List.getElem_cons_zero, Act.put, List.setIfInBounds_toArray, List.set_cons_zero, List.set_cons_succ])
    refine wpAnyH_ready (rs := [8]) (by kernel_rfl) (by simp) (AllReadyH.cons (o := _) rfl (fun K hK => ?_) AllReadyH.nil)
    go_simp
    go_at_call 88
    refine (nmake_v _ g12 (show sg s8 (_ / _) = q1.num * (q0.den : Int) / ((Nat.gcd (q0.num * (q1.den : Int)).natAbs (q1.num * (q0.den : Int)).natAbs : Nat) : Int) from by rw [x8.out]; exact sg_div (gcd_dr _ _) HN2.out)).mono ?_
    rintro e w11 ⟨s15, rfl, g15, hb⟩
    replace g12 := g12.below hb
    replace g14 := g14.below hb
    replace b0 := b0.below hb
    replace b9 := b9.below hb
    replace b3 := b3.below hb
    replace b4 := b4.below hb
    replace H0 := H0.trans (hb.mono H0.size)
    clear hb
    clear g12
    go_wp2_with fail
    refine hK.out _ _ ⟨b3.cell 0 _ rfl, b3.cell 1 _ rfl, b4.cell 0 _ rfl, b4.cell 1 _ rfl⟩ (fun hHeld => ?_)
    clear hK K
    (try simp only [List.getElem_toArray, List.getElem_cons_succ, List.getElem_cons_zero, Act.put, List.setIfInBounds_toArray, List.set_cons_zero, List.set_cons_succ])
    refine wpAnyH_take (i := 9) (v := ?_) rfl (by kernel_rfl) (by kernel_rfl) (by kernel_rfl) (fun _ _ _ h => h) (Or.inl ⟨by rfl, ?_⟩) (by assumption) ?_
    rotate_left
    · (intro w hSw; (try dsimp only at hSw); go_simp; (try with_reducible rfl))
    (try simp only [List.getElem_toArray, List.getElem_cons_succ, List.getElem_cons_zero, Act.put, List.setIfInBounds_toArray, List.set_cons_zero, List.set_cons_succ])
    refine wpAnyH_take (i := 10) (v := ?_) rfl (by kernel_rfl) (by kernel_rfl) (by kernel_rfl) (fun _ _ _ h => h) (Or.inl ⟨by rfl, ?_⟩) (by assumption) ?_
    rotate_left
    · (intro w hSw; (try dsimp only at hSw); go_simp; (try with_reducible rfl))
    (try simp only [List.getElem_toArray, List.getElem_cons_succ, List.getElem_cons_zero, Act.put, List.setIfInBounds_toArray, List.set_cons_zero, List.set_cons_succ])
    have cb90 := b9.cell 0 _ rfl
    have yb90 := b9.frozen 0
    have cb91 := b9.cell 1 _ rfl
    have yb91 := b9.frozen 1
    have cb92 := b9.cell 2 _ rfl
    have yb92 := b9.frozen 2
    have cb93 := b9.cell 3 _ rfl
    have yb93 := b9.frozen 3
    have cb94 := b9.cell 4 _ rfl
    have yb94 := b9.frozen 4
    have cb95 := b9.cell 5 _ rfl
    have yb95 := b9.frozen 5
    refine wpAnyH_ready (rs := [11]) (by kernel_rfl) (by simp) (AllReadyH.cons (o := _) rfl (fun K hK => ?_) AllReadyH.nil)
    go_simp
    clear cb90 yb90 cb91 yb91 cb92 yb92 cb93 yb93 cb94 yb94 cb95 yb95
    have hg := only_store6 w11 (w.heap.size + 1) (.bool s14) (.slice A10 n10 c10) (.slice none 0 0) (.bool s15) (.slice A12 n12 c12) (.slice none 0 0)
    have hB := b9.stored6 (.bool s14) (.slice A10 n10 c10) (.slice none 0 0) (.bool s15) (.slice A12 n12 c12) (.slice none 0 0)
    generalize hX : ((((((w11.setCell ⟨w.heap.size + 1, 0, none⟩ (.bool s14)).setCell ⟨w.heap.size + 1, 1, none⟩ (.slice A10 n10 c10)).setCell ⟨w.heap.size + 1, 2, none⟩ (.slice none 0 0)).setCell ⟨w.heap.size + 1, 3, none⟩ (.bool s15)).setCell ⟨w.heap.size + 1, 4, none⟩ (.slice A12 n12 c12)).setCell ⟨w.heap.size + 1, 5, none⟩ (.slice none 0 0)) = X12 at hg hB ⊢
    clear hX
    replace g14 := g14.kept b9 (by simp [notInt]) hg
    replace g15 := g15.kept b9 (by simp [notInt]) hg
    replace b0 := b0.other hg (by omega)
    replace b3 := b3.other hg (by omega)
    replace b4 := b4.other hg (by omega)
    replace b9 := hB
    replace H0 := below_only H0 hg (by omega) H0.size
    clear hg hB
    refine hK.out _ _ ⟨b3.cell 0 _ rfl, b3.cell 1 _ rfl, b4.cell 0 _ rfl, b4.cell 1 _ rfl⟩ (fun hHeld => ?_)
    clear hK K
    (try simp only [List.getElem_toArray, List.getElem_cons_succ, List.getElem_cons_zero, Act.put, List.setIfInBounds_toArray, List.set_cons_zero, List.set_cons_succ])
    refine wpAnyH_done (by kernel_rfl) ?_ _
    refine NoPanic.normal ?_
    go_wp2_with fail
    refine bodyPost_ret (ret_geop rfl rfl b9) rfl ?_
    exact ⟨s14, A10, n10, c10, none, 0, 0, s15, A12, n12, c12, none, 0, 0, rfl, by rw [mk_int HN2.out (gcd_dl _ _)]; exact (PQ.int g14).more (by omega), by rw [mk_int HN2.out (gcd_dr _ _)]; exact (PQ.int g15).more (by omega), H0⟩
end
end Go.Proofs.YtlpgbflajcfgpaaGreatDoor
