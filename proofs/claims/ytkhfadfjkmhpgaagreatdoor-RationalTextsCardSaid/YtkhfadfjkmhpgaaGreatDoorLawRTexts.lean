/-
  The walk of the law RationalTexts, out of the contracts of what it calls.
-/
import Derived.Test.YtkhfadfjkmhpgaaGreatDoorTextP
import Derived.Test.YtkhfadfjkmhpgaaGreatDoorRatT
namespace Go.Proofs.YtkhfadfjkmhpgaaGreatDoor
open Go.RowKit

section
variable {bs : List Nat} {v : Value} {a a' : Addr} {A0 A1 A2 A3 D0 D1 D2 D3 : Option Addr} {n0 n1 n2 n3 c0 c1 c2 c3 m0 m1 m2 m3 e0 e1 e2 e3 : Nat} {s0 s1 s2 s3 : Bool} {z z' z0 z1 z2 : Int} {q q' q0 q1 q2 : Rat} {L L0 L1 L2 x x0 x1 y : Nat} {k : Int} {w : World}
set_option maxRecDepth 100000 in
set_option maxHeartbeats 8000000 in
theorem rationaltexts_any (hb : OkB bs) (HI : Ints w v) (hS : w.cell? ⟨0, 0, none⟩ = some (.iface 199 (.pointer (some a)))) (hR : w.cell? ⟨1, 0, none⟩ = some (.iface 199 (.pointer (some a')))) (htab : Lib.TabIs Tryz.prog w "internal/strconv.uint64pow10" .u64 Lib.pow10Tab) :
    Calls Tryz.prog 7 #[.string (strB bs), v] w fun e w' => e = .returned (.bool true) ∧ Below w.heap.size w w' := by
  have blkS := World.block_lt_of_cell? _ _ hS
  have blkR := World.block_lt_of_cell? _ _ hR
  have HS := Lib.hid hS
  have HRr := Lib.hid hR
  have HT := Lib.hid (fun (W : World) (h : Below w.heap.size w W) => Go.Joins.tab_stays (show Tryz.prog.globalNamed "internal/strconv.uint64pow10" = some 5 by kernel_rfl) htab h (Nat.le_refl _))
  have HK := Lib.hid (fun (W : World) (h : Below w.heap.size w W) => known3_any ((h.cell (p := ⟨0, 0, none⟩) blkS).trans hS) ((h.cell (p := ⟨1, 0, none⟩) blkR).trans hR) (HT.out W h))
  have hsz := strB_size bs
  rcases Nat.lt_or_ge 200 bs.length with h200 | hl
  · have i200 : (200 : Int) < (bs.length : Int) := by omega
    generalize strB bs = s at *
    clear hb hS hR htab
    go_enter Tryz.func7, Tryz.ntmps7
    go_wp2_with fail
    have H0 := Below.refl w.heap.size w
    refine (HK.out _ H0).mono ?_
    rintro e w0 ⟨rfl, hb⟩
    replace H0 := H0.trans (hb.mono H0.size)
    clear hb
    go_wp2_with fail
    go_returns
    exact ⟨rfl, H0⟩
  · by_cases hn : ((∀ b ∈ (splitM (cutS bs).1).2, Dig b) ∧ (splitM (cutS bs).1).2 ≠ []) ∧ ((∀ b ∈ denS bs, Dig b) ∧ denS bs ≠ [])
    · obtain ⟨hi, hd⟩ := hn
      by_cases hz : decN (denS bs) = 0
      · skip
        have HP := Lib.hid (fun W (h : Below w.heap.size w W) => rpar_nul (w := W) (a := a) (a' := a') hb hl hi hd ((h.cell (p := ⟨0, 0, none⟩) blkS).trans hS) ((h.cell (p := ⟨1, 0, none⟩) blkR).trans hR) hz)
        have HR := Lib.hid (fun W (_ : Below w.heap.size w W) => readq_nul (w := W) hb hl hi hd hz)
        have i200 : ¬ (200 : Int) < (bs.length : Int) := by omega
        have j200 : ¬ 200 < bs.length := by omega
        generalize strB bs = s at *
        clear hi hd hz hb hl hS hR htab
        go_enter Tryz.func7, Tryz.ntmps7
        go_wp2_with fail
        have H0 := Below.refl w.heap.size w
        refine (HP.out _ H0).mono ?_
        rintro e w0 ⟨st, s5, A5, n5, c5, D5, m5, e5, rfl, g5, hb⟩
        replace H0 := H0.trans (hb.mono H0.size)
        clear hb
        obtain ⟨W1, hW, b5, hbW, hszW1⟩ := boxes1 w0 #[.bool s5, .slice A5 n5 c5, .slice D5 m5 e5] 27
        skip
        skip
        replace g5 := g5.below hbW
        replace H0 := H0.trans (hbW.mono H0.size)
        clear hbW
        go_wp2_with fail
        clear hW
        refine (HR.out _ H0).mono ?_
        rintro e w2 ⟨s6, A6, n6, c6, D6, m6, e6, rfl, hb⟩
        replace g5 := g5.below hb
        replace b5 := b5.below hb
        replace H0 := H0.trans (hb.mono H0.size)
        clear hb
        have lb5_3 := b5.lt
        obtain ⟨W3, hW, b6, hbW, hszW3⟩ := boxes1 w2 #[.bool s6, .slice A6 n6 c6, .slice D6 m6 e6] 34
        skip
        skip
        replace g5 := g5.below hbW
        replace b5 := b5.below hbW
        replace H0 := H0.trans (hbW.mono H0.size)
        clear hbW
        have cb50 := b5.cell 0 _ rfl
        have cb51 := b5.cell 1 _ rfl
        have cb52 := b5.cell 2 _ rfl
        have cR := (H0.cell (p := ⟨1, 0, none⟩) blkR).trans HRr.out
        go_wp2_with fail
        clear hW
        clear cb50 cb51 cb52 cR
        refine (is_part _ _ _).mono ?_
        rintro e w4 ⟨rfl, hb⟩
        replace g5 := g5.below hb
        replace b5 := b5.below hb
        replace b6 := b6.below hb
        replace H0 := H0.trans (hb.mono H0.size)
        clear hb
        have cb50 := b5.cell 0 _ rfl
        have cb51 := b5.cell 1 _ rfl
        have cb52 := b5.cell 2 _ rfl
        go_wp2_with fail
        clear cb50 cb51 cb52
        refine (sameq_z g5).mono ?_
        rintro e w5 ⟨rfl, hb⟩
        replace g5 := g5.below hb
        replace b5 := b5.below hb
        replace b6 := b6.below hb
        replace H0 := H0.trans (hb.mono H0.size)
        clear hb
        clear g5
        clear b5
        clear b6
        go_wp2_with fail
        refine (new_any (HI.below H0)).mono ?_
        rintro e w6 ⟨rfl, hT, hb9, hsz3⟩
        have hs0 : w.heap.size ≤ w5.heap.size := H0.size
        replace H0 := H0.trans (hb9.mono H0.size)
        have hlt : w5.heap.size < w6.heap.size := by omega
        clear hb9 hsz3
        go_wp2_with fail
        refine (rmade_v hT hlt).mono ?_
        rintro e w7 ⟨q0, s0, A0, n0, c0, D0, m0, e0, rfl, f0, hT', hg⟩
        replace H0 := H0.grown hg H0.size (by rintro k hk; injection hk with hk; omega)
        clear hg hT hT' hlt
        obtain ⟨W8, hW, b0, hbW, hszW8⟩ := boxes1 w7 #[.bool s0, .slice A0 n0 c0, .slice D0 m0 e0] 27
        skip
        skip
        replace f0 := f0.below hbW
        replace H0 := H0.trans (hbW.mono H0.size)
        clear hbW
        have cb00 := b0.cell 0 _ rfl
        have cb01 := b0.cell 1 _ rfl
        have cb02 := b0.cell 2 _ rfl
        go_wp2_with fail
        clear hW
        obtain ⟨z9, d9, k1, k2, k3⟩ := f0
        have hq : q0.num.natAbs < Bs 6 ∧ q0.den < Bs 6 := by rw [k3]; exact mk_lts k1.rv.lt k2.lt
        have f0 : RQ W8 s0 (.slice A0 n0 c0) (.slice D0 m0 e0) q0 6 := ⟨z9, d9, k1, k2, k3⟩
        clear k1 k2 k3
        have HB := Lib.hid (fun W (h : Below w.heap.size w W) => rback_v (w := W) (q := q0) (a := a) (L := 6) hq.1 hq.2 (by omega) ((h.cell (p := ⟨0, 0, none⟩) blkS).trans HS.out))
        clear hq
        have HF := Lib.hid (fun W (h : Below w.heap.size w W) (t : Bool) (A B : Option Addr) (n c m d : Nat) (hh : RQ W t (.slice A n c) (.slice B m d) q0 6) => rformat_v hh (by omega) (HT.out W h))
        have HN := Lib.hid (fun (W : World) (t : Bool) (A B : Option Addr) (n c m d : Nat) (hh : PQ W t (.slice A n c) (.slice B m d) q0 6) => nformatq_v hh (by omega))
        generalize strB (ratB q0) = tx at HB HF HN
        clear cb00 cb01 cb02
        refine (HF.out _ H0 _ _ _ _ _ _ _ f0).mono ?_
        rintro e w9 ⟨rfl, hb⟩
        replace f0 := f0.below hb
        replace b0 := b0.below hb
        replace H0 := H0.trans (hb.mono H0.size)
        clear hb
        go_wp2_with fail
        refine (HB.out _ H0).mono ?_
        rintro e w10 ⟨s1, A1, n1, c1, D1, m1, e1, rfl, g1, hb⟩
        replace f0 := f0.below hb
        replace b0 := b0.below hb
        replace H0 := H0.trans (hb.mono H0.size)
        clear hb
        have lb0_11 := b0.lt
        obtain ⟨W11, hW, b1, hbW, hszW11⟩ := boxes1 w10 #[.bool s1, .slice A1 n1 c1, .slice D1 m1 e1] 27
        skip
        skip
        replace f0 := f0.below hbW
        replace g1 := g1.below hbW
        replace b0 := b0.below hbW
        replace H0 := H0.trans (hbW.mono H0.size)
        clear hbW
        have cb00 := b0.cell 0 _ rfl
        have cb01 := b0.cell 1 _ rfl
        have cb02 := b0.cell 2 _ rfl
        have cb10 := b1.cell 0 _ rfl
        have cb11 := b1.cell 1 _ rfl
        have cb12 := b1.cell 2 _ rfl
        go_wp2_with fail
        clear hW
        clear cb00 cb01 cb02 cb10 cb11 cb12
        have hD := drawn_below W11
        replace f0 := f0.below hD
        replace g1 := g1.below hD
        replace b0 := b0.below hD
        replace b1 := b1.below hD
        replace H0 := H0.trans (hD.mono H0.size)
        clear hD
        refine wp_region_noPanic ?_
        refine wp_region_held_drew (S := (fun V => V.cell? ⟨w7.heap.size, 0, none⟩ = some (.bool s0) ∧ V.cell? ⟨w7.heap.size, 1, none⟩ = some (.slice A0 n0 c0) ∧ V.cell? ⟨w7.heap.size, 2, none⟩ = some (.slice D0 m0 e0) ∧ V.cell? ⟨w10.heap.size, 0, none⟩ = some (.bool s1) ∧ V.cell? ⟨w10.heap.size, 1, none⟩ = some (.slice A1 n1 c1) ∧ V.cell? ⟨w10.heap.size, 2, none⟩ = some (.slice D1 m1 e1))) (by kernel_rfl) ⟨b0.cell 0 _ rfl, b0.cell 1 _ rfl, b0.cell 2 _ rfl, b1.cell 0 _ rfl, b1.cell 1 _ rfl, b1.cell 2 _ rfl⟩ (fun hHeld => ?_)
        generalize W11.drew = v12 at H0 hHeld f0 g1 b0 b1 ⊢
        refine wpAnyH_ready (rs := [0]) (by kernel_rfl) (by simp) (AllReadyH.cons (o := _) rfl (fun K hK => ?_) AllReadyH.nil)
        go_simp
        go_at_call 10
        refine (HK.out _ H0).mono ?_
        rintro e w13 ⟨rfl, hb⟩
        replace f0 := f0.below hb
        replace g1 := g1.below hb
        replace b0 := b0.below hb
        replace b1 := b1.below hb
        replace H0 := H0.trans (hb.mono H0.size)
        clear hb
        go_wp2_with fail
        refine hK.out _ _ ⟨b0.cell 0 _ rfl, b0.cell 1 _ rfl, b0.cell 2 _ rfl, b1.cell 0 _ rfl, b1.cell 1 _ rfl, b1.cell 2 _ rfl⟩ (fun hHeld => ?_)
        clear hK K
        (try simp only [List.getElem_toArray, List.getElem_cons_succ, List.getElem_cons_zero, Act.put, List.setIfInBounds_toArray, List.set_cons_zero, List.set_cons_succ])
        refine wpAnyH_take (i := 1) (v := ?_) rfl (by kernel_rfl) (by kernel_rfl) (by kernel_rfl) (fun _ _ _ h => h) (Or.inl ⟨by rfl, ?_⟩) (by assumption) ?_
        rotate_left
        · (intro w hSw; (try dsimp only at hSw); go_simp; (try with_reducible rfl))
        (try simp only [List.getElem_toArray, List.getElem_cons_succ, List.getElem_cons_zero, Act.put, List.setIfInBounds_toArray, List.set_cons_zero, List.set_cons_succ])
        refine wpAnyH_take (i := 2) (v := ?_) rfl (by kernel_rfl) (by kernel_rfl) (by kernel_rfl) (fun _ _ _ h => h) (Or.inl ⟨by rfl, ?_⟩) (by assumption) ?_
        rotate_left
        · (intro w hSw; (try dsimp only at hSw); go_simp; (try with_reducible rfl))
        (try simp only [List.getElem_toArray, List.getElem_cons_succ, List.getElem_cons_zero, Act.put, List.setIfInBounds_toArray, List.set_cons_zero, List.set_cons_succ])
        refine wpAnyH_take (i := 3) (v := ?_) rfl (by kernel_rfl) (by kernel_rfl) (by kernel_rfl) (fun _ _ _ h => h) (Or.inl ⟨by rfl, ?_⟩) (by assumption) ?_
        rotate_left
        · (intro w hSw; (try dsimp only at hSw); go_simp; (try with_reducible rfl))
        (try simp only [List.getElem_toArray, List.getElem_cons_succ, List.getElem_cons_zero, Act.put, List.setIfInBounds_toArray, List.set_cons_zero, List.set_cons_succ])
        refine wpAnyH_take (i := 4) (v := ?_) rfl (by kernel_rfl) (by kernel_rfl) (by kernel_rfl) (fun _ _ _ h => h) (Or.inl ⟨by rfl, ?_⟩) (by assumption) ?_
        rotate_left
        · (intro w hSw; (try dsimp only at hSw); go_simp; (try with_reducible rfl))
        (try simp only [List.getElem_toArray, List.getElem_cons_succ, List.getElem_cons_zero, Act.put, List.setIfInBounds_toArray, List.set_cons_zero, List.set_cons_succ])
        refine wpAnyH_take (i := 5) (v := ?_) rfl (by kernel_rfl) (by kernel_rfl) (by kernel_rfl) (fun _ _ _ h => h) (Or.inl ⟨by rfl, ?_⟩) (by assumption) ?_
        rotate_left
        · (intro w hSw; (try dsimp only at hSw); go_simp; (try with_reducible rfl))
        (try simp only [List.getElem_toArray, List.getElem_cons_succ, List.getElem_cons_zero, Act.put, List.setIfInBounds_toArray, List.set_cons_zero, List.set_cons_succ])
        refine wpAnyH_take (i := 6) (v := ?_) rfl (by kernel_rfl) (by kernel_rfl) (by kernel_rfl) (fun _ _ _ h => h) (Or.inl ⟨by rfl, ?_⟩) (by assumption) ?_
        rotate_left
        · (intro w hSw; (try dsimp only at hSw); go_simp; (try with_reducible rfl))
        (try simp only [List.getElem_toArray, List.getElem_cons_succ, List.getElem_cons_zero, Act.put, List.setIfInBounds_toArray, List.set_cons_zero, List.set_cons_succ])
        refine wpAnyH_take (i := 7) (v := ?_) rfl (by kernel_rfl) (by kernel_rfl) (by kernel_rfl) (fun _ _ _ h => h) (Or.inl ⟨by rfl, ?_⟩) (by assumption) ?_
        rotate_left
        · (intro w hSw; (try dsimp only at hSw); go_simp; (try with_reducible rfl))
        (try simp only [List.getElem_toArray, List.getElem_cons_succ, List.getElem_cons_zero, Act.put, List.setIfInBounds_toArray, List.set_cons_zero, List.set_cons_succ])
        refine wpAnyH_ready (rs := [8]) (by kernel_rfl) (by simp) (AllReadyH.cons (o := _) rfl (fun K hK => ?_) AllReadyH.nil)
        go_simp
        go_at_call 11
        refine (refq_v f0 (by omega)).mono ?_
        rintro e w14 ⟨s2, A2, n2, c2, D2, m2, e2, rfl, g2, hb⟩
        replace f0 := f0.below hb
        replace g1 := g1.below hb
        replace b0 := b0.below hb
        replace b1 := b1.below hb
        replace H0 := H0.trans (hb.mono H0.size)
        clear hb
        go_wp2_with fail
        refine hK.out _ _ ⟨b0.cell 0 _ rfl, b0.cell 1 _ rfl, b0.cell 2 _ rfl, b1.cell 0 _ rfl, b1.cell 1 _ rfl, b1.cell 2 _ rfl⟩ (fun hHeld => ?_)
        clear hK K
        (try simp only [List.getElem_toArray, List.getElem_cons_succ, List.getElem_cons_zero, Act.put, List.setIfInBounds_toArray, List.set_cons_zero, List.set_cons_succ])
        refine wpAnyH_ready (rs := [9]) (by kernel_rfl) (by simp) (AllReadyH.cons (o := _) rfl (fun K hK => ?_) AllReadyH.nil)
        go_simp
        go_at_call 14
        refine (same3_d g1 g2 (by omega) (decide_eq_true rfl)).mono ?_
        rintro e w15 ⟨rfl, hb⟩
        replace f0 := f0.below hb
        replace g1 := g1.below hb
        replace g2 := g2.below hb
        replace b0 := b0.below hb
        replace b1 := b1.below hb
        replace H0 := H0.trans (hb.mono H0.size)
        clear hb
        clear g1
        clear g2
        go_wp2_with fail
        refine hK.out _ _ ⟨b0.cell 0 _ rfl, b0.cell 1 _ rfl, b0.cell 2 _ rfl, b1.cell 0 _ rfl, b1.cell 1 _ rfl, b1.cell 2 _ rfl⟩ (fun hHeld => ?_)
        clear hK K
        (try simp only [List.getElem_toArray, List.getElem_cons_succ, List.getElem_cons_zero, Act.put, List.setIfInBounds_toArray, List.set_cons_zero, List.set_cons_succ])
        refine wpAnyH_take (i := 10) (v := ?_) rfl (by kernel_rfl) (by kernel_rfl) (by kernel_rfl) (fun _ _ _ h => h) (Or.inl ⟨by rfl, ?_⟩) (by assumption) ?_
        rotate_left
        · (intro w hSw; (try dsimp only at hSw); go_simp; (try with_reducible rfl))
        (try simp only [List.getElem_toArray, List.getElem_cons_succ, List.getElem_cons_zero, Act.put, List.setIfInBounds_toArray, List.set_cons_zero, List.set_cons_succ])
        refine wpAnyH_take (i := 11) (v := ?_) rfl (by kernel_rfl) (by kernel_rfl) (by kernel_rfl) (fun _ _ _ h => h) (Or.inl ⟨by rfl, ?_⟩) (by assumption) ?_
        rotate_left
        · (intro w hSw; (try dsimp only at hSw); go_simp; (try with_reducible rfl))
        (try simp only [List.getElem_toArray, List.getElem_cons_succ, List.getElem_cons_zero, Act.put, List.setIfInBounds_toArray, List.set_cons_zero, List.set_cons_succ])
        refine wpAnyH_take (i := 12) (v := ?_) rfl (by kernel_rfl) (by kernel_rfl) (by kernel_rfl) (fun _ _ _ h => h) (Or.inl ⟨by rfl, ?_⟩) (by assumption) ?_
        rotate_left
        · (intro w hSw; (try dsimp only at hSw); go_simp; (try with_reducible rfl))
        (try simp only [List.getElem_toArray, List.getElem_cons_succ, List.getElem_cons_zero, Act.put, List.setIfInBounds_toArray, List.set_cons_zero, List.set_cons_succ])
        refine wpAnyH_take (i := 14) (v := ?_) rfl (by kernel_rfl) (by kernel_rfl) (by kernel_rfl) (fun _ _ _ h => h) (Or.inl ⟨by rfl, ?_⟩) (by assumption) ?_
        rotate_left
        · (intro w hSw; (try dsimp only at hSw); go_simp; (try with_reducible rfl))
        (try simp only [List.getElem_toArray, List.getElem_cons_succ, List.getElem_cons_zero, Act.put, List.setIfInBounds_toArray, List.set_cons_zero, List.set_cons_succ])
        refine wpAnyH_ready (rs := [13]) (by kernel_rfl) (by simp) (AllReadyH.cons (o := _) rfl (fun K hK => ?_) AllReadyH.nil)
        go_simp
        go_at_call 50
        refine (HF.out _ H0 _ _ _ _ _ _ _ f0).mono ?_
        rintro e w16 ⟨rfl, hb⟩
        replace f0 := f0.below hb
        replace b0 := b0.below hb
        replace b1 := b1.below hb
        replace H0 := H0.trans (hb.mono H0.size)
        clear hb
        go_wp2_with fail
        refine hK.out _ _ ⟨b0.cell 0 _ rfl, b0.cell 1 _ rfl, b0.cell 2 _ rfl, b1.cell 0 _ rfl, b1.cell 1 _ rfl, b1.cell 2 _ rfl⟩ (fun hHeld => ?_)
        clear hK K
        (try simp only [List.getElem_toArray, List.getElem_cons_succ, List.getElem_cons_zero, Act.put, List.setIfInBounds_toArray, List.set_cons_zero, List.set_cons_succ])
        refine wpAnyH_ready (rs := [15]) (by kernel_rfl) (by simp) (AllReadyH.cons (o := _) rfl (fun K hK => ?_) AllReadyH.nil)
        go_simp
        go_at_call 11
        refine (refq_v f0 (by omega)).mono ?_
        rintro e w17 ⟨s3, A3, n3, c3, D3, m3, e3, rfl, g3, hb⟩
        replace f0 := f0.below hb
        replace b0 := b0.below hb
        replace b1 := b1.below hb
        replace H0 := H0.trans (hb.mono H0.size)
        clear hb
        clear f0
        go_wp2_with fail
        refine hK.out _ _ ⟨b0.cell 0 _ rfl, b0.cell 1 _ rfl, b0.cell 2 _ rfl, b1.cell 0 _ rfl, b1.cell 1 _ rfl, b1.cell 2 _ rfl⟩ (fun hHeld => ?_)
        clear hK K
        (try simp only [List.getElem_toArray, List.getElem_cons_succ, List.getElem_cons_zero, Act.put, List.setIfInBounds_toArray, List.set_cons_zero, List.set_cons_succ])
        refine wpAnyH_ready (rs := [16]) (by kernel_rfl) (by simp) (AllReadyH.cons (o := _) rfl (fun K hK => ?_) AllReadyH.nil)
        go_simp
        go_at_call 51
        refine (HN.out _ _ _ _ _ _ _ _ g3).mono ?_
        rintro e w18 ⟨rfl, hb⟩
        replace g3 := g3.below hb
        replace b0 := b0.below hb
        replace b1 := b1.below hb
        replace H0 := H0.trans (hb.mono H0.size)
        clear hb
        clear g3
        go_wp2_with fail
        refine hK.out _ _ ⟨b0.cell 0 _ rfl, b0.cell 1 _ rfl, b0.cell 2 _ rfl, b1.cell 0 _ rfl, b1.cell 1 _ rfl, b1.cell 2 _ rfl⟩ (fun hHeld => ?_)
        clear hK K
        (try simp only [List.getElem_toArray, List.getElem_cons_succ, List.getElem_cons_zero, Act.put, List.setIfInBounds_toArray, List.set_cons_zero, List.set_cons_succ])
        refine wpAnyH_take (i := 17) (v := ?_) rfl (by kernel_rfl) (by kernel_rfl) (by kernel_rfl) (fun _ _ _ h => h) (Or.inl ⟨by rfl, ?_⟩) (by assumption) ?_
        rotate_left
        · (intro w hSw; (try dsimp only at hSw); go_simp; (try with_reducible rfl))
        (try simp only [List.getElem_toArray, List.getElem_cons_succ, List.getElem_cons_zero, Act.put, List.setIfInBounds_toArray, List.set_cons_zero, List.set_cons_succ])
        refine wpAnyH_take (i := 18) (v := ?_) rfl (by kernel_rfl) (by kernel_rfl) (by kernel_rfl) (fun _ _ _ h => h) (Or.inl ⟨by rfl, ?_⟩) (by assumption) ?_
        rotate_left
        · (intro w hSw; (try dsimp only at hSw); go_simp; (try with_reducible rfl))
        (try simp only [List.getElem_toArray, List.getElem_cons_succ, List.getElem_cons_zero, Act.put, List.setIfInBounds_toArray, List.set_cons_zero, List.set_cons_succ])
        refine wpAnyH_take (i := 19) (v := ?_) rfl (by kernel_rfl) (by kernel_rfl) (by kernel_rfl) (fun _ _ _ h => h) (Or.inl ⟨by rfl, ?_⟩) (by assumption) ?_
        rotate_left
        · (intro w hSw; (try dsimp only at hSw); go_simp; (try with_reducible rfl))
        (try simp only [List.getElem_toArray, List.getElem_cons_succ, List.getElem_cons_zero, Act.put, List.setIfInBounds_toArray, List.set_cons_zero, List.set_cons_succ])
        refine wpAnyH_done (by kernel_rfl) ?_ _
        refine NoPanic.normal ?_
        go_wp2_with fail
        go_returns
        exact ⟨rfl, H0⟩
      · skip
        have HP := Lib.hid (fun W (h : Below w.heap.size w W) => rparse_yes (w := W) (a := a) (L := 200) hb hl (by omega) hi hd ((h.cell (p := ⟨0, 0, none⟩) blkS).trans hS) hz)
        have HR := Lib.hid (fun W (_ : Below w.heap.size w W) => readq_ok (w := W) hb hl hi hd hz)
        have i200 : ¬ (200 : Int) < (bs.length : Int) := by omega
        have j200 : ¬ 200 < bs.length := by omega
        generalize strB bs = s at *
        generalize mkRat (sg (splitM (cutS bs).1).1 (decN (splitM (cutS bs).1).2)) (decN (denS bs)) = q9 at HP HR
        clear hi hd hz hb hl hS hR htab
        go_enter Tryz.func7, Tryz.ntmps7
        go_wp2_with fail
        have H0 := Below.refl w.heap.size w
        refine (HP.out _ H0).mono ?_
        rintro e w0 ⟨s5, A5, n5, c5, D5, m5, e5, rfl, g5, hb⟩
        replace H0 := H0.trans (hb.mono H0.size)
        clear hb
        obtain ⟨W1, hW, b5, hbW, hszW1⟩ := boxes1 w0 #[.bool s5, .slice A5 n5 c5, .slice D5 m5 e5] 27
        skip
        skip
        replace g5 := g5.below hbW
        replace H0 := H0.trans (hbW.mono H0.size)
        clear hbW
        go_wp2_with fail
        clear hW
        refine (HR.out _ H0).mono ?_
        rintro e w2 ⟨s6, A6, n6, c6, D6, m6, e6, rfl, g6, hb⟩
        replace g5 := g5.below hb
        replace b5 := b5.below hb
        replace H0 := H0.trans (hb.mono H0.size)
        clear hb
        have lb5_3 := b5.lt
        obtain ⟨W3, hW, b6, hbW, hszW3⟩ := boxes1 w2 #[.bool s6, .slice A6 n6 c6, .slice D6 m6 e6] 34
        skip
        skip
        replace g5 := g5.below hbW
        replace g6 := g6.below hbW
        replace b5 := b5.below hbW
        replace H0 := H0.trans (hbW.mono H0.size)
        clear hbW
        have cb50 := b5.cell 0 _ rfl
        have cb51 := b5.cell 1 _ rfl
        have cb52 := b5.cell 2 _ rfl
        have cb60 := b6.cell 0 _ rfl
        have cb61 := b6.cell 1 _ rfl
        have cb62 := b6.cell 2 _ rfl
        go_wp2_with fail
        clear hW
        clear cb50 cb51 cb52 cb60 cb61 cb62
        refine (same3_d g5 g6 (by omega) (decide_eq_true rfl)).mono ?_
        rintro e w4 ⟨rfl, hb⟩
        replace g5 := g5.below hb
        replace g6 := g6.below hb
        replace b5 := b5.below hb
        replace b6 := b6.below hb
        replace H0 := H0.trans (hb.mono H0.size)
        clear hb
        clear g5
        clear g6
        clear b5
        clear b6
        go_wp2_with fail
        refine (new_any (HI.below H0)).mono ?_
        rintro e w5 ⟨rfl, hT, hb9, hsz3⟩
        have hs0 : w.heap.size ≤ w4.heap.size := H0.size
        replace H0 := H0.trans (hb9.mono H0.size)
        have hlt : w4.heap.size < w5.heap.size := by omega
        clear hb9 hsz3
        go_wp2_with fail
        refine (rmade_v hT hlt).mono ?_
        rintro e w6 ⟨q0, s0, A0, n0, c0, D0, m0, e0, rfl, f0, hT', hg⟩
        replace H0 := H0.grown hg H0.size (by rintro k hk; injection hk with hk; omega)
        clear hg hT hT' hlt
        obtain ⟨W7, hW, b0, hbW, hszW7⟩ := boxes1 w6 #[.bool s0, .slice A0 n0 c0, .slice D0 m0 e0] 27
        skip
        skip
        replace f0 := f0.below hbW
        replace H0 := H0.trans (hbW.mono H0.size)
        clear hbW
        have cb00 := b0.cell 0 _ rfl
        have cb01 := b0.cell 1 _ rfl
        have cb02 := b0.cell 2 _ rfl
        go_wp2_with fail
        clear hW
        obtain ⟨z9, d9, k1, k2, k3⟩ := f0
        have hq : q0.num.natAbs < Bs 6 ∧ q0.den < Bs 6 := by rw [k3]; exact mk_lts k1.rv.lt k2.lt
        have f0 : RQ W7 s0 (.slice A0 n0 c0) (.slice D0 m0 e0) q0 6 := ⟨z9, d9, k1, k2, k3⟩
        clear k1 k2 k3
        have HB := Lib.hid (fun W (h : Below w.heap.size w W) => rback_v (w := W) (q := q0) (a := a) (L := 6) hq.1 hq.2 (by omega) ((h.cell (p := ⟨0, 0, none⟩) blkS).trans HS.out))
        clear hq
        have HF := Lib.hid (fun W (h : Below w.heap.size w W) (t : Bool) (A B : Option Addr) (n c m d : Nat) (hh : RQ W t (.slice A n c) (.slice B m d) q0 6) => rformat_v hh (by omega) (HT.out W h))
        have HN := Lib.hid (fun (W : World) (t : Bool) (A B : Option Addr) (n c m d : Nat) (hh : PQ W t (.slice A n c) (.slice B m d) q0 6) => nformatq_v hh (by omega))
        generalize strB (ratB q0) = tx at HB HF HN
        clear cb00 cb01 cb02
        refine (HF.out _ H0 _ _ _ _ _ _ _ f0).mono ?_
        rintro e w8 ⟨rfl, hb⟩
        replace f0 := f0.below hb
        replace b0 := b0.below hb
        replace H0 := H0.trans (hb.mono H0.size)
        clear hb
        go_wp2_with fail
        refine (HB.out _ H0).mono ?_
        rintro e w9 ⟨s1, A1, n1, c1, D1, m1, e1, rfl, g1, hb⟩
        replace f0 := f0.below hb
        replace b0 := b0.below hb
        replace H0 := H0.trans (hb.mono H0.size)
        clear hb
        have lb0_10 := b0.lt
        obtain ⟨W10, hW, b1, hbW, hszW10⟩ := boxes1 w9 #[.bool s1, .slice A1 n1 c1, .slice D1 m1 e1] 27
        skip
        skip
        replace f0 := f0.below hbW
        replace g1 := g1.below hbW
        replace b0 := b0.below hbW
        replace H0 := H0.trans (hbW.mono H0.size)
        clear hbW
        have cb00 := b0.cell 0 _ rfl
        have cb01 := b0.cell 1 _ rfl
        have cb02 := b0.cell 2 _ rfl
        have cb10 := b1.cell 0 _ rfl
        have cb11 := b1.cell 1 _ rfl
        have cb12 := b1.cell 2 _ rfl
        go_wp2_with fail
        clear hW
        clear cb00 cb01 cb02 cb10 cb11 cb12
        have hD := drawn_below W10
        replace f0 := f0.below hD
        replace g1 := g1.below hD
        replace b0 := b0.below hD
        replace b1 := b1.below hD
        replace H0 := H0.trans (hD.mono H0.size)
        clear hD
        refine wp_region_noPanic ?_
        refine wp_region_held_drew (S := (fun V => V.cell? ⟨w6.heap.size, 0, none⟩ = some (.bool s0) ∧ V.cell? ⟨w6.heap.size, 1, none⟩ = some (.slice A0 n0 c0) ∧ V.cell? ⟨w6.heap.size, 2, none⟩ = some (.slice D0 m0 e0) ∧ V.cell? ⟨w9.heap.size, 0, none⟩ = some (.bool s1) ∧ V.cell? ⟨w9.heap.size, 1, none⟩ = some (.slice A1 n1 c1) ∧ V.cell? ⟨w9.heap.size, 2, none⟩ = some (.slice D1 m1 e1))) (by kernel_rfl) ⟨b0.cell 0 _ rfl, b0.cell 1 _ rfl, b0.cell 2 _ rfl, b1.cell 0 _ rfl, b1.cell 1 _ rfl, b1.cell 2 _ rfl⟩ (fun hHeld => ?_)
        generalize W10.drew = v11 at H0 hHeld f0 g1 b0 b1 ⊢
        refine wpAnyH_ready (rs := [0]) (by kernel_rfl) (by simp) (AllReadyH.cons (o := _) rfl (fun K hK => ?_) AllReadyH.nil)
        go_simp
        go_at_call 10
        refine (HK.out _ H0).mono ?_
        rintro e w12 ⟨rfl, hb⟩
        replace f0 := f0.below hb
        replace g1 := g1.below hb
        replace b0 := b0.below hb
        replace b1 := b1.below hb
        replace H0 := H0.trans (hb.mono H0.size)
        clear hb
        go_wp2_with fail
        refine hK.out _ _ ⟨b0.cell 0 _ rfl, b0.cell 1 _ rfl, b0.cell 2 _ rfl, b1.cell 0 _ rfl, b1.cell 1 _ rfl, b1.cell 2 _ rfl⟩ (fun hHeld => ?_)
        clear hK K
        (try simp only [List.getElem_toArray, List.getElem_cons_succ, List.getElem_cons_zero, Act.put, List.setIfInBounds_toArray, List.set_cons_zero, List.set_cons_succ])
        refine wpAnyH_take (i := 1) (v := ?_) rfl (by kernel_rfl) (by kernel_rfl) (by kernel_rfl) (fun _ _ _ h => h) (Or.inl ⟨by rfl, ?_⟩) (by assumption) ?_
        rotate_left
        · (intro w hSw; (try dsimp only at hSw); go_simp; (try with_reducible rfl))
        (try simp only [List.getElem_toArray, List.getElem_cons_succ, List.getElem_cons_zero, Act.put, List.setIfInBounds_toArray, List.set_cons_zero, List.set_cons_succ])
        refine wpAnyH_take (i := 2) (v := ?_) rfl (by kernel_rfl) (by kernel_rfl) (by kernel_rfl) (fun _ _ _ h => h) (Or.inl ⟨by rfl, ?_⟩) (by assumption) ?_
        rotate_left
        · (intro w hSw; (try dsimp only at hSw); go_simp; (try with_reducible rfl))
        (try simp only [List.getElem_toArray, List.getElem_cons_succ, List.getElem_cons_zero, Act.put, List.setIfInBounds_toArray, List.set_cons_zero, List.set_cons_succ])
        refine wpAnyH_take (i := 3) (v := ?_) rfl (by kernel_rfl) (by kernel_rfl) (by kernel_rfl) (fun _ _ _ h => h) (Or.inl ⟨by rfl, ?_⟩) (by assumption) ?_
        rotate_left
        · (intro w hSw; (try dsimp only at hSw); go_simp; (try with_reducible rfl))
        (try simp only [List.getElem_toArray, List.getElem_cons_succ, List.getElem_cons_zero, Act.put, List.setIfInBounds_toArray, List.set_cons_zero, List.set_cons_succ])
        refine wpAnyH_take (i := 4) (v := ?_) rfl (by kernel_rfl) (by kernel_rfl) (by kernel_rfl) (fun _ _ _ h => h) (Or.inl ⟨by rfl, ?_⟩) (by assumption) ?_
        rotate_left
        · (intro w hSw; (try dsimp only at hSw); go_simp; (try with_reducible rfl))
        (try simp only [List.getElem_toArray, List.getElem_cons_succ, List.getElem_cons_zero, Act.put, List.setIfInBounds_toArray, List.set_cons_zero, List.set_cons_succ])
        refine wpAnyH_take (i := 5) (v := ?_) rfl (by kernel_rfl) (by kernel_rfl) (by kernel_rfl) (fun _ _ _ h => h) (Or.inl ⟨by rfl, ?_⟩) (by assumption) ?_
        rotate_left
        · (intro w hSw; (try dsimp only at hSw); go_simp; (try with_reducible rfl))
        (try simp only [List.getElem_toArray, List.getElem_cons_succ, List.getElem_cons_zero, Act.put, List.setIfInBounds_toArray, List.set_cons_zero, List.set_cons_succ])
        refine wpAnyH_take (i := 6) (v := ?_) rfl (by kernel_rfl) (by kernel_rfl) (by kernel_rfl) (fun _ _ _ h => h) (Or.inl ⟨by rfl, ?_⟩) (by assumption) ?_
        rotate_left
        · (intro w hSw; (try dsimp only at hSw); go_simp; (try with_reducible rfl))
        (try simp only [List.getElem_toArray, List.getElem_cons_succ, List.getElem_cons_zero, Act.put, List.setIfInBounds_toArray, List.set_cons_zero, List.set_cons_succ])
        refine wpAnyH_take (i := 7) (v := ?_) rfl (by kernel_rfl) (by kernel_rfl) (by kernel_rfl) (fun _ _ _ h => h) (Or.inl ⟨by rfl, ?_⟩) (by assumption) ?_
        rotate_left
        · (intro w hSw; (try dsimp only at hSw); go_simp; (try with_reducible rfl))
        (try simp only [List.getElem_toArray, List.getElem_cons_succ, List.getElem_cons_zero, Act.put, List.setIfInBounds_toArray, List.set_cons_zero, List.set_cons_succ])
        refine wpAnyH_ready (rs := [8]) (by kernel_rfl) (by simp) (AllReadyH.cons (o := _) rfl (fun K hK => ?_) AllReadyH.nil)
        go_simp
        go_at_call 11
        refine (refq_v f0 (by omega)).mono ?_
        rintro e w13 ⟨s2, A2, n2, c2, D2, m2, e2, rfl, g2, hb⟩
        replace f0 := f0.below hb
        replace g1 := g1.below hb
        replace b0 := b0.below hb
        replace b1 := b1.below hb
        replace H0 := H0.trans (hb.mono H0.size)
        clear hb
        go_wp2_with fail
        refine hK.out _ _ ⟨b0.cell 0 _ rfl, b0.cell 1 _ rfl, b0.cell 2 _ rfl, b1.cell 0 _ rfl, b1.cell 1 _ rfl, b1.cell 2 _ rfl⟩ (fun hHeld => ?_)
        clear hK K
        (try simp only [List.getElem_toArray, List.getElem_cons_succ, List.getElem_cons_zero, Act.put, List.setIfInBounds_toArray, List.set_cons_zero, List.set_cons_succ])
        refine wpAnyH_ready (rs := [9]) (by kernel_rfl) (by simp) (AllReadyH.cons (o := _) rfl (fun K hK => ?_) AllReadyH.nil)
        go_simp
        go_at_call 14
        refine (same3_d g1 g2 (by omega) (decide_eq_true rfl)).mono ?_
        rintro e w14 ⟨rfl, hb⟩
        replace f0 := f0.below hb
        replace g1 := g1.below hb
        replace g2 := g2.below hb
        replace b0 := b0.below hb
        replace b1 := b1.below hb
        replace H0 := H0.trans (hb.mono H0.size)
        clear hb
        clear g1
        clear g2
        go_wp2_with fail
        refine hK.out _ _ ⟨b0.cell 0 _ rfl, b0.cell 1 _ rfl, b0.cell 2 _ rfl, b1.cell 0 _ rfl, b1.cell 1 _ rfl, b1.cell 2 _ rfl⟩ (fun hHeld => ?_)
        clear hK K
        (try simp only [List.getElem_toArray, List.getElem_cons_succ, List.getElem_cons_zero, Act.put, List.setIfInBounds_toArray, List.set_cons_zero, List.set_cons_succ])
        refine wpAnyH_take (i := 10) (v := ?_) rfl (by kernel_rfl) (by kernel_rfl) (by kernel_rfl) (fun _ _ _ h => h) (Or.inl ⟨by rfl, ?_⟩) (by assumption) ?_
        rotate_left
        · (intro w hSw; (try dsimp only at hSw); go_simp; (try with_reducible rfl))
        (try simp only [List.getElem_toArray, List.getElem_cons_succ, List.getElem_cons_zero, Act.put, List.setIfInBounds_toArray, List.set_cons_zero, List.set_cons_succ])
        refine wpAnyH_take (i := 11) (v := ?_) rfl (by kernel_rfl) (by kernel_rfl) (by kernel_rfl) (fun _ _ _ h => h) (Or.inl ⟨by rfl, ?_⟩) (by assumption) ?_
        rotate_left
        · (intro w hSw; (try dsimp only at hSw); go_simp; (try with_reducible rfl))
        (try simp only [List.getElem_toArray, List.getElem_cons_succ, List.getElem_cons_zero, Act.put, List.setIfInBounds_toArray, List.set_cons_zero, List.set_cons_succ])
        refine wpAnyH_take (i := 12) (v := ?_) rfl (by kernel_rfl) (by kernel_rfl) (by kernel_rfl) (fun _ _ _ h => h) (Or.inl ⟨by rfl, ?_⟩) (by assumption) ?_
        rotate_left
        · (intro w hSw; (try dsimp only at hSw); go_simp; (try with_reducible rfl))
        (try simp only [List.getElem_toArray, List.getElem_cons_succ, List.getElem_cons_zero, Act.put, List.setIfInBounds_toArray, List.set_cons_zero, List.set_cons_succ])
        refine wpAnyH_take (i := 14) (v := ?_) rfl (by kernel_rfl) (by kernel_rfl) (by kernel_rfl) (fun _ _ _ h => h) (Or.inl ⟨by rfl, ?_⟩) (by assumption) ?_
        rotate_left
        · (intro w hSw; (try dsimp only at hSw); go_simp; (try with_reducible rfl))
        (try simp only [List.getElem_toArray, List.getElem_cons_succ, List.getElem_cons_zero, Act.put, List.setIfInBounds_toArray, List.set_cons_zero, List.set_cons_succ])
        refine wpAnyH_ready (rs := [13]) (by kernel_rfl) (by simp) (AllReadyH.cons (o := _) rfl (fun K hK => ?_) AllReadyH.nil)
        go_simp
        go_at_call 50
        refine (HF.out _ H0 _ _ _ _ _ _ _ f0).mono ?_
        rintro e w15 ⟨rfl, hb⟩
        replace f0 := f0.below hb
        replace b0 := b0.below hb
        replace b1 := b1.below hb
        replace H0 := H0.trans (hb.mono H0.size)
        clear hb
        go_wp2_with fail
        refine hK.out _ _ ⟨b0.cell 0 _ rfl, b0.cell 1 _ rfl, b0.cell 2 _ rfl, b1.cell 0 _ rfl, b1.cell 1 _ rfl, b1.cell 2 _ rfl⟩ (fun hHeld => ?_)
        clear hK K
        (try simp only [List.getElem_toArray, List.getElem_cons_succ, List.getElem_cons_zero, Act.put, List.setIfInBounds_toArray, List.set_cons_zero, List.set_cons_succ])
        refine wpAnyH_ready (rs := [15]) (by kernel_rfl) (by simp) (AllReadyH.cons (o := _) rfl (fun K hK => ?_) AllReadyH.nil)
        go_simp
        go_at_call 11
        refine (refq_v f0 (by omega)).mono ?_
        rintro e w16 ⟨s3, A3, n3, c3, D3, m3, e3, rfl, g3, hb⟩
        replace f0 := f0.below hb
        replace b0 := b0.below hb
        replace b1 := b1.below hb
        replace H0 := H0.trans (hb.mono H0.size)
        clear hb
        clear f0
        go_wp2_with fail
        refine hK.out _ _ ⟨b0.cell 0 _ rfl, b0.cell 1 _ rfl, b0.cell 2 _ rfl, b1.cell 0 _ rfl, b1.cell 1 _ rfl, b1.cell 2 _ rfl⟩ (fun hHeld => ?_)
        clear hK K
        (try simp only [List.getElem_toArray, List.getElem_cons_succ, List.getElem_cons_zero, Act.put, List.setIfInBounds_toArray, List.set_cons_zero, List.set_cons_succ])
        refine wpAnyH_ready (rs := [16]) (by kernel_rfl) (by simp) (AllReadyH.cons (o := _) rfl (fun K hK => ?_) AllReadyH.nil)
        go_simp
        go_at_call 51
        refine (HN.out _ _ _ _ _ _ _ _ g3).mono ?_
        rintro e w17 ⟨rfl, hb⟩
        replace g3 := g3.below hb
        replace b0 := b0.below hb
        replace b1 := b1.below hb
        replace H0 := H0.trans (hb.mono H0.size)
        clear hb
        clear g3
        go_wp2_with fail
        refine hK.out _ _ ⟨b0.cell 0 _ rfl, b0.cell 1 _ rfl, b0.cell 2 _ rfl, b1.cell 0 _ rfl, b1.cell 1 _ rfl, b1.cell 2 _ rfl⟩ (fun hHeld => ?_)
        clear hK K
        (try simp only [List.getElem_toArray, List.getElem_cons_succ, List.getElem_cons_zero, Act.put, List.setIfInBounds_toArray, List.set_cons_zero, List.set_cons_succ])
        refine wpAnyH_take (i := 17) (v := ?_) rfl (by kernel_rfl) (by kernel_rfl) (by kernel_rfl) (fun _ _ _ h => h) (Or.inl ⟨by rfl, ?_⟩) (by assumption) ?_
        rotate_left
        · (intro w hSw; (try dsimp only at hSw); go_simp; (try with_reducible rfl))
        (try simp only [List.getElem_toArray, List.getElem_cons_succ, List.getElem_cons_zero, Act.put, List.setIfInBounds_toArray, List.set_cons_zero, List.set_cons_succ])
        refine wpAnyH_take (i := 18) (v := ?_) rfl (by kernel_rfl) (by kernel_rfl) (by kernel_rfl) (fun _ _ _ h => h) (Or.inl ⟨by rfl, ?_⟩) (by assumption) ?_
        rotate_left
        · (intro w hSw; (try dsimp only at hSw); go_simp; (try with_reducible rfl))
        (try simp only [List.getElem_toArray, List.getElem_cons_succ, List.getElem_cons_zero, Act.put, List.setIfInBounds_toArray, List.set_cons_zero, List.set_cons_succ])
        refine wpAnyH_take (i := 19) (v := ?_) rfl (by kernel_rfl) (by kernel_rfl) (by kernel_rfl) (fun _ _ _ h => h) (Or.inl ⟨by rfl, ?_⟩) (by assumption) ?_
        rotate_left
        · (intro w hSw; (try dsimp only at hSw); go_simp; (try with_reducible rfl))
        (try simp only [List.getElem_toArray, List.getElem_cons_succ, List.getElem_cons_zero, Act.put, List.setIfInBounds_toArray, List.set_cons_zero, List.set_cons_succ])
        refine wpAnyH_done (by kernel_rfl) ?_ _
        refine NoPanic.normal ?_
        go_wp2_with fail
        go_returns
        exact ⟨rfl, H0⟩
    · skip
      have HP := Lib.hid (fun W (h : Below w.heap.size w W) => rpar_no (w := W) (a := a) hb hl hn ((h.cell (p := ⟨0, 0, none⟩) blkS).trans hS))
      have HR := Lib.hid (fun W (_ : Below w.heap.size w W) => readq_no (w := W) hb hl hn)
      have i200 : ¬ (200 : Int) < (bs.length : Int) := by omega
      have j200 : ¬ 200 < bs.length := by omega
      generalize strB bs = s at *
      clear hn hb hl hS hR htab
      go_enter Tryz.func7, Tryz.ntmps7
      go_wp2_with fail
      have H0 := Below.refl w.heap.size w
      refine (HP.out _ H0).mono ?_
      rintro e w0 ⟨st, s5, A5, n5, c5, D5, m5, e5, rfl, g5, hb⟩
      replace H0 := H0.trans (hb.mono H0.size)
      clear hb
      obtain ⟨W1, hW, b5, hbW, hszW1⟩ := boxes1 w0 #[.bool s5, .slice A5 n5 c5, .slice D5 m5 e5] 27
      skip
      skip
      replace g5 := g5.below hbW
      replace H0 := H0.trans (hbW.mono H0.size)
      clear hbW
      go_wp2_with fail
      clear hW
      refine (HR.out _ H0).mono ?_
      rintro e w2 ⟨s6, A6, n6, c6, D6, m6, e6, rfl, hb⟩
      replace g5 := g5.below hb
      replace b5 := b5.below hb
      replace H0 := H0.trans (hb.mono H0.size)
      clear hb
      have lb5_3 := b5.lt
      obtain ⟨W3, hW, b6, hbW, hszW3⟩ := boxes1 w2 #[.bool s6, .slice A6 n6 c6, .slice D6 m6 e6] 34
      skip
      skip
      replace g5 := g5.below hbW
      replace b5 := b5.below hbW
      replace H0 := H0.trans (hbW.mono H0.size)
      clear hbW
      have cb50 := b5.cell 0 _ rfl
      have cb51 := b5.cell 1 _ rfl
      have cb52 := b5.cell 2 _ rfl
      have cS := (H0.cell (p := ⟨0, 0, none⟩) blkS).trans HS.out
      go_wp2_with fail
      clear hW
      clear cb50 cb51 cb52 cS
      refine (is_part _ _ _).mono ?_
      rintro e w4 ⟨rfl, hb⟩
      replace g5 := g5.below hb
      replace b5 := b5.below hb
      replace b6 := b6.below hb
      replace H0 := H0.trans (hb.mono H0.size)
      clear hb
      have cb50 := b5.cell 0 _ rfl
      have cb51 := b5.cell 1 _ rfl
      have cb52 := b5.cell 2 _ rfl
      go_wp2_with fail
      clear cb50 cb51 cb52
      refine (sameq_z g5).mono ?_
      rintro e w5 ⟨rfl, hb⟩
      replace g5 := g5.below hb
      replace b5 := b5.below hb
      replace b6 := b6.below hb
      replace H0 := H0.trans (hb.mono H0.size)
      clear hb
      clear g5
      clear b5
      clear b6
      go_wp2_with fail
      refine (new_any (HI.below H0)).mono ?_
      rintro e w6 ⟨rfl, hT, hb9, hsz3⟩
      have hs0 : w.heap.size ≤ w5.heap.size := H0.size
      replace H0 := H0.trans (hb9.mono H0.size)
      have hlt : w5.heap.size < w6.heap.size := by omega
      clear hb9 hsz3
      go_wp2_with fail
      refine (rmade_v hT hlt).mono ?_
      rintro e w7 ⟨q0, s0, A0, n0, c0, D0, m0, e0, rfl, f0, hT', hg⟩
      replace H0 := H0.grown hg H0.size (by rintro k hk; injection hk with hk; omega)
      clear hg hT hT' hlt
      obtain ⟨W8, hW, b0, hbW, hszW8⟩ := boxes1 w7 #[.bool s0, .slice A0 n0 c0, .slice D0 m0 e0] 27
      skip
      skip
      replace f0 := f0.below hbW
      replace H0 := H0.trans (hbW.mono H0.size)
      clear hbW
      have cb00 := b0.cell 0 _ rfl
      have cb01 := b0.cell 1 _ rfl
      have cb02 := b0.cell 2 _ rfl
      go_wp2_with fail
      clear hW
      obtain ⟨z9, d9, k1, k2, k3⟩ := f0
      have hq : q0.num.natAbs < Bs 6 ∧ q0.den < Bs 6 := by rw [k3]; exact mk_lts k1.rv.lt k2.lt
      have f0 : RQ W8 s0 (.slice A0 n0 c0) (.slice D0 m0 e0) q0 6 := ⟨z9, d9, k1, k2, k3⟩
      clear k1 k2 k3
      have HB := Lib.hid (fun W (h : Below w.heap.size w W) => rback_v (w := W) (q := q0) (a := a) (L := 6) hq.1 hq.2 (by omega) ((h.cell (p := ⟨0, 0, none⟩) blkS).trans HS.out))
      clear hq
      have HF := Lib.hid (fun W (h : Below w.heap.size w W) (t : Bool) (A B : Option Addr) (n c m d : Nat) (hh : RQ W t (.slice A n c) (.slice B m d) q0 6) => rformat_v hh (by omega) (HT.out W h))
      have HN := Lib.hid (fun (W : World) (t : Bool) (A B : Option Addr) (n c m d : Nat) (hh : PQ W t (.slice A n c) (.slice B m d) q0 6) => nformatq_v hh (by omega))
      generalize strB (ratB q0) = tx at HB HF HN
      clear cb00 cb01 cb02
      refine (HF.out _ H0 _ _ _ _ _ _ _ f0).mono ?_
      rintro e w9 ⟨rfl, hb⟩
      replace f0 := f0.below hb
      replace b0 := b0.below hb
      replace H0 := H0.trans (hb.mono H0.size)
      clear hb
      go_wp2_with fail
      refine (HB.out _ H0).mono ?_
      rintro e w10 ⟨s1, A1, n1, c1, D1, m1, e1, rfl, g1, hb⟩
      replace f0 := f0.below hb
      replace b0 := b0.below hb
      replace H0 := H0.trans (hb.mono H0.size)
      clear hb
      have lb0_11 := b0.lt
      obtain ⟨W11, hW, b1, hbW, hszW11⟩ := boxes1 w10 #[.bool s1, .slice A1 n1 c1, .slice D1 m1 e1] 27
      skip
      skip
      replace f0 := f0.below hbW
      replace g1 := g1.below hbW
      replace b0 := b0.below hbW
      replace H0 := H0.trans (hbW.mono H0.size)
      clear hbW
      have cb00 := b0.cell 0 _ rfl
      have cb01 := b0.cell 1 _ rfl
      have cb02 := b0.cell 2 _ rfl
      have cb10 := b1.cell 0 _ rfl
      have cb11 := b1.cell 1 _ rfl
      have cb12 := b1.cell 2 _ rfl
      go_wp2_with fail
      clear hW
      clear cb00 cb01 cb02 cb10 cb11 cb12
      have hD := drawn_below W11
      replace f0 := f0.below hD
      replace g1 := g1.below hD
      replace b0 := b0.below hD
      replace b1 := b1.below hD
      replace H0 := H0.trans (hD.mono H0.size)
      clear hD
      refine wp_region_noPanic ?_
      refine wp_region_held_drew (S := (fun V => V.cell? ⟨w7.heap.size, 0, none⟩ = some (.bool s0) ∧ V.cell? ⟨w7.heap.size, 1, none⟩ = some (.slice A0 n0 c0) ∧ V.cell? ⟨w7.heap.size, 2, none⟩ = some (.slice D0 m0 e0) ∧ V.cell? ⟨w10.heap.size, 0, none⟩ = some (.bool s1) ∧ V.cell? ⟨w10.heap.size, 1, none⟩ = some (.slice A1 n1 c1) ∧ V.cell? ⟨w10.heap.size, 2, none⟩ = some (.slice D1 m1 e1))) (by kernel_rfl) ⟨b0.cell 0 _ rfl, b0.cell 1 _ rfl, b0.cell 2 _ rfl, b1.cell 0 _ rfl, b1.cell 1 _ rfl, b1.cell 2 _ rfl⟩ (fun hHeld => ?_)
      generalize W11.drew = v12 at H0 hHeld f0 g1 b0 b1 ⊢
      refine wpAnyH_ready (rs := [0]) (by kernel_rfl) (by simp) (AllReadyH.cons (o := _) rfl (fun K hK => ?_) AllReadyH.nil)
      go_simp
      go_at_call 10
      refine (HK.out _ H0).mono ?_
      rintro e w13 ⟨rfl, hb⟩
      replace f0 := f0.below hb
      replace g1 := g1.below hb
      replace b0 := b0.below hb
      replace b1 := b1.below hb
      replace H0 := H0.trans (hb.mono H0.size)
      clear hb
      go_wp2_with fail
      refine hK.out _ _ ⟨b0.cell 0 _ rfl, b0.cell 1 _ rfl, b0.cell 2 _ rfl, b1.cell 0 _ rfl, b1.cell 1 _ rfl, b1.cell 2 _ rfl⟩ (fun hHeld => ?_)
      clear hK K
      (try simp only [List.getElem_toArray, List.getElem_cons_succ, List.getElem_cons_zero, Act.put, List.setIfInBounds_toArray, List.set_cons_zero, List.set_cons_succ])
      refine wpAnyH_take (i := 1) (v := ?_) rfl (by kernel_rfl) (by kernel_rfl) (by kernel_rfl) (fun _ _ _ h => h) (Or.inl ⟨by rfl, ?_⟩) (by assumption) ?_
      rotate_left
      · (intro w hSw; (try dsimp only at hSw); go_simp; (try with_reducible rfl))
      (try simp only [List.getElem_toArray, List.getElem_cons_succ, List.getElem_cons_zero, Act.put, List.setIfInBounds_toArray, List.set_cons_zero, List.set_cons_succ])
      refine wpAnyH_take (i := 2) (v := ?_) rfl (by kernel_rfl) (by kernel_rfl) (by kernel_rfl) (fun _ _ _ h => h) (Or.inl ⟨by rfl, ?_⟩) (by assumption) ?_
      rotate_left
      · (intro w hSw; (try dsimp only at hSw); go_simp; (try with_reducible rfl))
      (try simp only [List.getElem_toArray, List.getElem_cons_succ, List.getElem_cons_zero, Act.put, List.setIfInBounds_toArray, List.set_cons_zero, List.set_cons_succ])
      refine wpAnyH_take (i := 3) (v := ?_) rfl (by kernel_rfl) (by kernel_rfl) (by kernel_rfl) (fun _ _ _ h => h) (Or.inl ⟨by rfl, ?_⟩) (by assumption) ?_
      rotate_left
      · (intro w hSw; (try dsimp only at hSw); go_simp; (try with_reducible rfl))
      (try simp only [List.getElem_toArray, List.getElem_cons_succ, List.getElem_cons_zero, Act.put, List.setIfInBounds_toArray, List.set_cons_zero, List.set_cons_succ])
      refine wpAnyH_take (i := 4) (v := ?_) rfl (by kernel_rfl) (by kernel_rfl) (by kernel_rfl) (fun _ _ _ h => h) (Or.inl ⟨by rfl, ?_⟩) (by assumption) ?_
      rotate_left
      · (intro w hSw; (try dsimp only at hSw); go_simp; (try with_reducible rfl))
      (try simp only [List.getElem_toArray, List.getElem_cons_succ, List.getElem_cons_zero, Act.put, List.setIfInBounds_toArray, List.set_cons_zero, List.set_cons_succ])
      refine wpAnyH_take (i := 5) (v := ?_) rfl (by kernel_rfl) (by kernel_rfl) (by kernel_rfl) (fun _ _ _ h => h) (Or.inl ⟨by rfl, ?_⟩) (by assumption) ?_
      rotate_left
      · (intro w hSw; (try dsimp only at hSw); go_simp; (try with_reducible rfl))
      (try simp only [List.getElem_toArray, List.getElem_cons_succ, List.getElem_cons_zero, Act.put, List.setIfInBounds_toArray, List.set_cons_zero, List.set_cons_succ])
      refine wpAnyH_take (i := 6) (v := ?_) rfl (by kernel_rfl) (by kernel_rfl) (by kernel_rfl) (fun _ _ _ h => h) (Or.inl ⟨by rfl, ?_⟩) (by assumption) ?_
      rotate_left
      · (intro w hSw; (try dsimp only at hSw); go_simp; (try with_reducible rfl))
      (try simp only [List.getElem_toArray, List.getElem_cons_succ, List.getElem_cons_zero, Act.put, List.setIfInBounds_toArray, List.set_cons_zero, List.set_cons_succ])
      refine wpAnyH_take (i := 7) (v := ?_) rfl (by kernel_rfl) (by kernel_rfl) (by kernel_rfl) (fun _ _ _ h => h) (Or.inl ⟨by rfl, ?_⟩) (by assumption) ?_
      rotate_left
      · (intro w hSw; (try dsimp only at hSw); go_simp; (try with_reducible rfl))
      (try simp only [List.getElem_toArray, List.getElem_cons_succ, List.getElem_cons_zero, Act.put, List.setIfInBounds_toArray, List.set_cons_zero, List.set_cons_succ])
      refine wpAnyH_ready (rs := [8]) (by kernel_rfl) (by simp) (AllReadyH.cons (o := _) rfl (fun K hK => ?_) AllReadyH.nil)
      go_simp
      go_at_call 11
      refine (refq_v f0 (by omega)).mono ?_
      rintro e w14 ⟨s2, A2, n2, c2, D2, m2, e2, rfl, g2, hb⟩
      replace f0 := f0.below hb
      replace g1 := g1.below hb
      replace b0 := b0.below hb
      replace b1 := b1.below hb
      replace H0 := H0.trans (hb.mono H0.size)
      clear hb
      go_wp2_with fail
      refine hK.out _ _ ⟨b0.cell 0 _ rfl, b0.cell 1 _ rfl, b0.cell 2 _ rfl, b1.cell 0 _ rfl, b1.cell 1 _ rfl, b1.cell 2 _ rfl⟩ (fun hHeld => ?_)
      clear hK K
      (try simp only [List.getElem_toArray, List.getElem_cons_succ, List.getElem_cons_zero, Act.put, List.setIfInBounds_toArray, List.set_cons_zero, List.set_cons_succ])
      refine wpAnyH_ready (rs := [9]) (by kernel_rfl) (by simp) (AllReadyH.cons (o := _) rfl (fun K hK => ?_) AllReadyH.nil)
      go_simp
      go_at_call 14
      refine (same3_d g1 g2 (by omega) (decide_eq_true rfl)).mono ?_
      rintro e w15 ⟨rfl, hb⟩
      replace f0 := f0.below hb
      replace g1 := g1.below hb
      replace g2 := g2.below hb
      replace b0 := b0.below hb
      replace b1 := b1.below hb
      replace H0 := H0.trans (hb.mono H0.size)
      clear hb
      clear g1
      clear g2
      go_wp2_with fail
      refine hK.out _ _ ⟨b0.cell 0 _ rfl, b0.cell 1 _ rfl, b0.cell 2 _ rfl, b1.cell 0 _ rfl, b1.cell 1 _ rfl, b1.cell 2 _ rfl⟩ (fun hHeld => ?_)
      clear hK K
      (try simp only [List.getElem_toArray, List.getElem_cons_succ, List.getElem_cons_zero, Act.put, List.setIfInBounds_toArray, List.set_cons_zero, List.set_cons_succ])
      refine wpAnyH_take (i := 10) (v := ?_) rfl (by kernel_rfl) (by kernel_rfl) (by kernel_rfl) (fun _ _ _ h => h) (Or.inl ⟨by rfl, ?_⟩) (by assumption) ?_
      rotate_left
      · (intro w hSw; (try dsimp only at hSw); go_simp; (try with_reducible rfl))
      (try simp only [List.getElem_toArray, List.getElem_cons_succ, List.getElem_cons_zero, Act.put, List.setIfInBounds_toArray, List.set_cons_zero, List.set_cons_succ])
      refine wpAnyH_take (i := 11) (v := ?_) rfl (by kernel_rfl) (by kernel_rfl) (by kernel_rfl) (fun _ _ _ h => h) (Or.inl ⟨by rfl, ?_⟩) (by assumption) ?_
      rotate_left
      · (intro w hSw; (try dsimp only at hSw); go_simp; (try with_reducible rfl))
      (try simp only [List.getElem_toArray, List.getElem_cons_succ, List.getElem_cons_zero, Act.put, List.setIfInBounds_toArray, List.set_cons_zero, List.set_cons_succ])
      refine wpAnyH_take (i := 12) (v := ?_) rfl (by kernel_rfl) (by kernel_rfl) (by kernel_rfl) (fun _ _ _ h => h) (Or.inl ⟨by rfl, ?_⟩) (by assumption) ?_
      rotate_left
      · (intro w hSw; (try dsimp only at hSw); go_simp; (try with_reducible rfl))
      (try simp only [List.getElem_toArray, List.getElem_cons_succ, List.getElem_cons_zero, Act.put, List.setIfInBounds_toArray, List.set_cons_zero, List.set_cons_succ])
      refine wpAnyH_take (i := 14) (v := ?_) rfl (by kernel_rfl) (by kernel_rfl) (by kernel_rfl) (fun _ _ _ h => h) (Or.inl ⟨by rfl, ?_⟩) (by assumption) ?_
      rotate_left
      · (intro w hSw; (try dsimp only at hSw); go_simp; (try with_reducible rfl))
      (try simp only [List.getElem_toArray, List.getElem_cons_succ, List.getElem_cons_zero, Act.put, List.setIfInBounds_toArray, List.set_cons_zero, List.set_cons_succ])
      refine wpAnyH_ready (rs := [13]) (by kernel_rfl) (by simp) (AllReadyH.cons (o := _) rfl (fun K hK => ?_) AllReadyH.nil)
      go_simp
      go_at_call 50
      refine (HF.out _ H0 _ _ _ _ _ _ _ f0).mono ?_
      rintro e w16 ⟨rfl, hb⟩
      replace f0 := f0.below hb
      replace b0 := b0.below hb
      replace b1 := b1.below hb
      replace H0 := H0.trans (hb.mono H0.size)
      clear hb
      go_wp2_with fail
      refine hK.out _ _ ⟨b0.cell 0 _ rfl, b0.cell 1 _ rfl, b0.cell 2 _ rfl, b1.cell 0 _ rfl, b1.cell 1 _ rfl, b1.cell 2 _ rfl⟩ (fun hHeld => ?_)
      clear hK K
      (try simp only [List.getElem_toArray, List.getElem_cons_succ, List.getElem_cons_zero, Act.put, List.setIfInBounds_toArray, List.set_cons_zero, List.set_cons_succ])
      refine wpAnyH_ready (rs := [15]) (by kernel_rfl) (by simp) (AllReadyH.cons (o := _) rfl (fun K hK => ?_) AllReadyH.nil)
      go_simp
      go_at_call 11
      refine (refq_v f0 (by omega)).mono ?_
      rintro e w17 ⟨s3, A3, n3, c3, D3, m3, e3, rfl, g3, hb⟩
      replace f0 := f0.below hb
      replace b0 := b0.below hb
      replace b1 := b1.below hb
      replace H0 := H0.trans (hb.mono H0.size)
      clear hb
      clear f0
      go_wp2_with fail
      refine hK.out _ _ ⟨b0.cell 0 _ rfl, b0.cell 1 _ rfl, b0.cell 2 _ rfl, b1.cell 0 _ rfl, b1.cell 1 _ rfl, b1.cell 2 _ rfl⟩ (fun hHeld => ?_)
      clear hK K
      (try simp only [List.getElem_toArray, List.getElem_cons_succ, List.getElem_cons_zero, Act.put, List.setIfInBounds_toArray, List.set_cons_zero, List.set_cons_succ])
      refine wpAnyH_ready (rs := [16]) (by kernel_rfl) (by simp) (AllReadyH.cons (o := _) rfl (fun K hK => ?_) AllReadyH.nil)
      go_simp
      go_at_call 51
      refine (HN.out _ _ _ _ _ _ _ _ g3).mono ?_
      rintro e w18 ⟨rfl, hb⟩
      replace g3 := g3.below hb
      replace b0 := b0.below hb
      replace b1 := b1.below hb
      replace H0 := H0.trans (hb.mono H0.size)
      clear hb
      clear g3
      go_wp2_with fail
      refine hK.out _ _ ⟨b0.cell 0 _ rfl, b0.cell 1 _ rfl, b0.cell 2 _ rfl, b1.cell 0 _ rfl, b1.cell 1 _ rfl, b1.cell 2 _ rfl⟩ (fun hHeld => ?_)
      clear hK K
      (try simp only [List.getElem_toArray, List.getElem_cons_succ, List.getElem_cons_zero, Act.put, List.setIfInBounds_toArray, List.set_cons_zero, List.set_cons_succ])
      refine wpAnyH_take (i := 17) (v := ?_) rfl (by kernel_rfl) (by kernel_rfl) (by kernel_rfl) (fun _ _ _ h => h) (Or.inl ⟨by rfl, ?_⟩) (by assumption) ?_
      rotate_left
      · (intro w hSw; (try dsimp only at hSw); go_simp; (try with_reducible rfl))
      (try simp only [List.getElem_toArray, List.getElem_cons_succ, List.getElem_cons_zero, Act.put, List.setIfInBounds_toArray, List.set_cons_zero, List.set_cons_succ])
      refine wpAnyH_take (i := 18) (v := ?_) rfl (by kernel_rfl) (by kernel_rfl) (by kernel_rfl) (fun _ _ _ h => h) (Or.inl ⟨by rfl, ?_⟩) (by assumption) ?_
      rotate_left
      · (intro w hSw; (try dsimp only at hSw); go_simp; (try with_reducible rfl))
      (try simp only [List.getElem_toArray, List.getElem_cons_succ, List.getElem_cons_zero, Act.put, List.setIfInBounds_toArray, List.set_cons_zero, List.set_cons_succ])
      refine wpAnyH_take (i := 19) (v := ?_) rfl (by kernel_rfl) (by kernel_rfl) (by kernel_rfl) (fun _ _ _ h => h) (Or.inl ⟨by rfl, ?_⟩) (by assumption) ?_
      rotate_left
      · (intro w hSw; (try dsimp only at hSw); go_simp; (try with_reducible rfl))
      (try simp only [List.getElem_toArray, List.getElem_cons_succ, List.getElem_cons_zero, Act.put, List.setIfInBounds_toArray, List.set_cons_zero, List.set_cons_succ])
      refine wpAnyH_done (by kernel_rfl) ?_ _
      refine NoPanic.normal ?_
      go_wp2_with fail
      go_returns
      exact ⟨rfl, H0⟩
end
end Go.Proofs.YtkhfadfjkmhpgaaGreatDoor
