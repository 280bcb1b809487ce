/-
  point.Parse, out of what rational.Parse answers of both coordinates.
-/
import Derived.Test.YtancgkmkbgkncaaGreatDoorX1
import Derived.Test.YtancgkmkbgkncaaGreatDoorT1
import Derived.Test.YtancgkmkbgkncaaGreatDoorR1
import Derived.Test.YtancgkmkbgkncaaGreatDoorRatP
namespace Go.Proofs.YtancgkmkbgkncaaGreatDoor
open Go.RowKit

section
variable {A0 A1 A2 A3 A4 A5 A6 A7 D0 D1 D2 D3 D4 D5 D6 D7 : Option Addr} {n0 n1 n2 n3 n4 n5 n6 n7 c0 c1 c2 c3 c4 c5 c6 c7 m0 m1 m2 m3 m4 m5 m6 m7 e0 e1 e2 e3 e4 e5 e6 e7 : Nat} {s0 s1 s2 s3 s4 s5 s6 s7 : Bool} {q0 q1 q2 q3 q4 q5 q6 q7 : Rat} {L L0 L1 x x0 x1 y : Nat} {k : Int} {b : Bool} {w : World}
set_option maxRecDepth 100000 in
set_option maxHeartbeats 4000000 in
theorem pparse_no {a : Addr} {bs : List Nat} (hb : OkB bs) (hl : bs.length ≤ 1000) (hS : w.cell? ⟨0, 0, none⟩ = some (.iface 195 (.pointer (some a)))) (ho : coordOk bs = false) (HX : ∀ W : World, Below w.heap.size w W → Calls Tryz.prog 25 #[.string (strB (coordX bs))] W fun e w' => ∃ s0 A0 n0 c0 D0 m0 e0 u, e = .returned (.tuple #[.agg #[.bool s0, .slice A0 n0 c0, .slice D0 m0 e0], u]) ∧ Below W.heap.size W w') (HY : ∀ W : World, Below w.heap.size w W → Calls Tryz.prog 25 #[.string (strB (coordY bs))] W fun e w' => ∃ s1 A1 n1 c1 D1 m1 e1 u, e = .returned (.tuple #[.agg #[.bool s1, .slice A1 n1 c1, .slice D1 m1 e1], u]) ∧ Below W.heap.size W w') :
    Calls Tryz.prog 7 #[.string (strB bs)] w fun e w' => e = .returned (.tuple #[.agg #[.bool false, .slice none 0 0, .slice none 0 0, .bool false, .slice none 0 0, .slice none 0 0], .iface 195 (.pointer (some a))]) ∧ Below w.heap.size w w' := by
  have blkS := World.block_lt_of_cell? _ _ hS
  have HS := Lib.hid (fun (W : World) (h : Below w.heap.size w W) => (h.cell (p := ⟨0, 0, none⟩) blkS).trans hS)
  have HC := Lib.hid (fun W => coord_v (w := W) hb hl)
  have HO := Lib.hid ho
  have HX := Lib.hid HX
  have HY := Lib.hid HY
  clear hb hl hS ho blkS
  generalize strB bs = sb at HC ⊢
  generalize strB (coordX bs) = sx at HC HX
  generalize strB (coordY bs) = sy at HC HY
  go_enter Tryz.func7, Tryz.ntmps7
  go_wp2_with fail
  obtain ⟨W0, hW, b9, hbW, hszW0⟩ := boxes1 w #[.bool false, .slice none 0 0, .slice none 0 0, .bool false, .slice none 0 0, .slice none 0 0] 31
  rw [hW]
  clear hW
  have H0 := hbW
  clear hbW
  go_wp2_with fail
  refine (HC.out _).mono ?_
  rintro e w1 ⟨rfl, hb⟩
  replace b9 := b9.below hb
  replace H0 := H0.trans (hb.mono H0.size)
  clear hb
  rw [HO.out]
  go_wp2_with fail
  refine (HX.out _ H0).mono ?_
  rintro e w2 ⟨s0, A0, n0, c0, D0, m0, e0, u0, rfl, hb⟩
  replace b9 := b9.below hb
  replace H0 := H0.trans (hb.mono H0.size)
  clear hb
  have lb9_3 := b9.lt
  obtain ⟨W3, hW, b1, hbW, hszW3⟩ := boxes1 w2 #[.bool s0, .slice A0 n0 c0, .slice D0 m0 e0] 29
  skip
  skip
  replace b9 := b9.below hbW
  replace H0 := H0.trans (hbW.mono H0.size)
  clear hbW
  go_wp2_with fail
  clear hW
  refine (HY.out _ H0).mono ?_
  rintro e w4 ⟨s1, A1, n1, c1, D1, m1, e1, u1, rfl, hb⟩
  replace b9 := b9.below hb
  replace b1 := b1.below hb
  replace H0 := H0.trans (hb.mono H0.size)
  clear hb
  have lb9_5 := b9.lt
  have lb1_5 := b1.lt
  obtain ⟨W5, hW, b2, hbW, hszW5⟩ := boxes1 w4 #[.bool s1, .slice A1 n1 c1, .slice D1 m1 e1] 29
  skip
  skip
  replace b9 := b9.below hbW
  replace b1 := b1.below hbW
  replace H0 := H0.trans (hbW.mono H0.size)
  clear hbW
  have cS := HS.out _ H0
  go_wp2_with fail
  clear hW cS
  have hD := drawn_below W5
  replace b9 := b9.below hD
  replace b1 := b1.below hD
  replace b2 := b2.below hD
  replace H0 := H0.trans (hD.mono H0.size)
  clear hD
  refine wp_region_noPanic ?_
  refine wp_region_held_drew (S := (fun V => V.cell? ⟨0, 0, none⟩ = some (.iface 195 (.pointer (some a))))) (by kernel_rfl) (HS.out _ H0) (fun hHeld => ?_)
  generalize W5.drew = v6 at H0 hHeld b9 b1 b2 ⊢
  refine wpAnyH_take (i := 0) (v := ?_) rfl (by kernel_rfl) (by kernel_rfl) (by kernel_rfl) (fun _ _ _ h => h) (Or.inl ⟨by rfl, ?_⟩) (by assumption) ?_
  rotate_left
  · (intro w hSw; (try dsimp only at hSw); go_simp; (try with_reducible rfl))
  (try simp only [List.getElem_toArray, List.getElem_cons_zero, Act.put, List.setIfInBounds_toArray, List.set_cons_zero, List.set_cons_succ])
  refine wpAnyH_take (i := 1) (v := ?_) rfl (by kernel_rfl) (by kernel_rfl) (by kernel_rfl) (fun _ _ _ h => h) (Or.inl ⟨by rfl, ?_⟩) (by assumption) ?_
  rotate_left
  · (intro w hSw; (try dsimp only at hSw); go_simp; (try with_reducible rfl))
  (try simp only [List.getElem_toArray, List.getElem_cons_succ, List.getElem_cons_zero, Act.put, List.setIfInBounds_toArray, List.set_cons_zero, List.set_cons_succ])
  have cb90 := b9.cell 0 _ rfl
  have yb90 := b9.frozen 0
  have cb91 := b9.cell 1 _ rfl
  have yb91 := b9.frozen 1
  have cb92 := b9.cell 2 _ rfl
  have yb92 := b9.frozen 2
  have cb93 := b9.cell 3 _ rfl
  have yb93 := b9.frozen 3
  have cb94 := b9.cell 4 _ rfl
  have yb94 := b9.frozen 4
  have cb95 := b9.cell 5 _ rfl
  have yb95 := b9.frozen 5
  refine wpAnyH_ready (rs := [2]) (by kernel_rfl) (by simp) (AllReadyH.cons (o := _) rfl (fun K hK => ?_) AllReadyH.nil)
  go_simp
  clear cb90 yb90 cb91 yb91 cb92 yb92 cb93 yb93 cb94 yb94 cb95 yb95
  have hg := only_store6 v6 (w.heap.size) (.bool false) (.slice none 0 0) (.slice none 0 0) (.bool false) (.slice none 0 0) (.slice none 0 0)
  have hB := b9.stored6 (.bool false) (.slice none 0 0) (.slice none 0 0) (.bool false) (.slice none 0 0) (.slice none 0 0)
  generalize hX : ((((((v6.setCell ⟨w.heap.size, 0, none⟩ (.bool false)).setCell ⟨w.heap.size, 1, none⟩ (.slice none 0 0)).setCell ⟨w.heap.size, 2, none⟩ (.slice none 0 0)).setCell ⟨w.heap.size, 3, none⟩ (.bool false)).setCell ⟨w.heap.size, 4, none⟩ (.slice none 0 0)).setCell ⟨w.heap.size, 5, none⟩ (.slice none 0 0)) = X7 at hg hB ⊢
  clear hX
  replace b1 := b1.other hg (by omega)
  replace b2 := b2.other hg (by omega)
  replace b9 := hB
  replace H0 := below_only H0 hg (by omega) H0.size
  clear hg hB
  refine hK.out _ _ (HS.out _ H0) (fun hHeld => ?_)
  clear hK K
  (try simp only [List.getElem_toArray, List.getElem_cons_succ, List.getElem_cons_zero, Act.put, List.setIfInBounds_toArray, List.set_cons_zero, List.set_cons_succ])
  refine wpAnyH_take (i := 3) (v := ?_) rfl (by kernel_rfl) (by kernel_rfl) (by kernel_rfl) (fun _ _ _ h => h) (Or.inl ⟨by rfl, ?_⟩) (by assumption) ?_
  rotate_left
  · (intro w hSw; (try dsimp only at hSw); go_simp; (try with_reducible rfl))
  (try simp only [List.getElem_toArray, List.getElem_cons_succ, List.getElem_cons_zero, Act.put, List.setIfInBounds_toArray, List.set_cons_zero, List.set_cons_succ])
  refine wpAnyH_done (by kernel_rfl) ?_ _
  refine NoPanic.normal ?_
  go_wp2_with fail
  refine bodyPost_ret (ret_point_e rfl rfl b9) rfl ?_
  exact ⟨rfl, H0⟩
set_option maxRecDepth 100000 in
set_option maxHeartbeats 4000000 in
theorem pparse_y {a : Addr} {bs : List Nat} (hb : OkB bs) (hl : bs.length ≤ 1000) (hS : w.cell? ⟨0, 0, none⟩ = some (.iface 195 (.pointer (some a)))) (ho : coordOk bs = true) (HX : ∀ W : World, Below w.heap.size w W → Calls Tryz.prog 25 #[.string (strB (coordX bs))] W fun e w' => ∃ s0 A0 n0 c0 D0 m0 e0 u, e = .returned (.tuple #[.agg #[.bool s0, .slice A0 n0 c0, .slice D0 m0 e0], u]) ∧ Below W.heap.size W w') (HY : ∀ W : World, Below w.heap.size w W → Calls Tryz.prog 25 #[.string (strB (coordY bs))] W fun e w' => ∃ st : ByteArray, ∃ s1 A1 n1 c1 D1 m1 e1, e = .returned (.tuple #[.agg #[.bool s1, .slice A1 n1 c1, .slice D1 m1 e1], .iface 103 (.agg #[.string st, .iface 195 (.pointer (some a))])]) ∧ Below W.heap.size W w') :
    Calls Tryz.prog 7 #[.string (strB bs)] w fun e w' => e = .returned (.tuple #[.agg #[.bool false, .slice none 0 0, .slice none 0 0, .bool false, .slice none 0 0, .slice none 0 0], .iface 195 (.pointer (some a))]) ∧ Below w.heap.size w w' := by
  have blkS := World.block_lt_of_cell? _ _ hS
  have HS := Lib.hid (fun (W : World) (h : Below w.heap.size w W) => (h.cell (p := ⟨0, 0, none⟩) blkS).trans hS)
  have HC := Lib.hid (fun W => coord_v (w := W) hb hl)
  have HO := Lib.hid ho
  have HX := Lib.hid HX
  have HY := Lib.hid HY
  clear hb hl hS ho blkS
  generalize strB bs = sb at HC ⊢
  generalize strB (coordX bs) = sx at HC HX
  generalize strB (coordY bs) = sy at HC HY
  go_enter Tryz.func7, Tryz.ntmps7
  go_wp2_with fail
  obtain ⟨W0, hW, b9, hbW, hszW0⟩ := boxes1 w #[.bool false, .slice none 0 0, .slice none 0 0, .bool false, .slice none 0 0, .slice none 0 0] 31
  rw [hW]
  clear hW
  have H0 := hbW
  clear hbW
  go_wp2_with fail
  refine (HC.out _).mono ?_
  rintro e w1 ⟨rfl, hb⟩
  replace b9 := b9.below hb
  replace H0 := H0.trans (hb.mono H0.size)
  clear hb
  rw [HO.out]
  go_wp2_with fail
  refine (HX.out _ H0).mono ?_
  rintro e w2 ⟨s0, A0, n0, c0, D0, m0, e0, u0, rfl, hb⟩
  replace b9 := b9.below hb
  replace H0 := H0.trans (hb.mono H0.size)
  clear hb
  have lb9_3 := b9.lt
  obtain ⟨W3, hW, b1, hbW, hszW3⟩ := boxes1 w2 #[.bool s0, .slice A0 n0 c0, .slice D0 m0 e0] 29
  skip
  skip
  replace b9 := b9.below hbW
  replace H0 := H0.trans (hbW.mono H0.size)
  clear hbW
  go_wp2_with fail
  clear hW
  refine (HY.out _ H0).mono ?_
  rintro e w4 ⟨u1, s1, A1, n1, c1, D1, m1, e1, rfl, hb⟩
  replace b9 := b9.below hb
  replace b1 := b1.below hb
  replace H0 := H0.trans (hb.mono H0.size)
  clear hb
  have lb9_5 := b9.lt
  have lb1_5 := b1.lt
  obtain ⟨W5, hW, b2, hbW, hszW5⟩ := boxes1 w4 #[.bool s1, .slice A1 n1 c1, .slice D1 m1 e1] 29
  skip
  skip
  replace b9 := b9.below hbW
  replace b1 := b1.below hbW
  replace H0 := H0.trans (hbW.mono H0.size)
  clear hbW
  have cS := HS.out _ H0
  go_wp2_with fail
  clear hW cS
  refine (is_part _ _ _).mono ?_
  rintro e w6 ⟨rfl, hb⟩
  replace b9 := b9.below hb
  replace b1 := b1.below hb
  replace b2 := b2.below hb
  replace H0 := H0.trans (hb.mono H0.size)
  clear hb
  go_wp2_with fail
  have hD := drawn_below w6
  replace b9 := b9.below hD
  replace b1 := b1.below hD
  replace b2 := b2.below hD
  replace H0 := H0.trans (hD.mono H0.size)
  clear hD
  refine wp_region_noPanic ?_
  refine wp_region_held_drew (S := (fun V => V.cell? ⟨0, 0, none⟩ = some (.iface 195 (.pointer (some a))))) (by kernel_rfl) (HS.out _ H0) (fun hHeld => ?_)
  generalize w6.drew = v7 at H0 hHeld b9 b1 b2 ⊢
  refine wpAnyH_take (i := 0) (v := ?_) rfl (by kernel_rfl) (by kernel_rfl) (by kernel_rfl) (fun _ _ _ h => h) (Or.inl ⟨by rfl, ?_⟩) (by assumption) ?_
  rotate_left
  · (intro w hSw; (try dsimp only at hSw); go_simp; (try with_reducible rfl))
  (try simp only [List.getElem_toArray, List.getElem_cons_zero, Act.put, List.setIfInBounds_toArray, List.set_cons_zero, List.set_cons_succ])
  refine wpAnyH_take (i := 1) (v := ?_) rfl (by kernel_rfl) (by kernel_rfl) (by kernel_rfl) (fun _ _ _ h => h) (Or.inl ⟨by rfl, ?_⟩) (by assumption) ?_
  rotate_left
  · (intro w hSw; (try dsimp only at hSw); go_simp; (try with_reducible rfl))
  (try simp only [List.getElem_toArray, List.getElem_cons_succ, List.getElem_cons_zero, Act.put, List.setIfInBounds_toArray, List.set_cons_zero, List.set_cons_succ])
  have cb90 := b9.cell 0 _ rfl
  have yb90 := b9.frozen 0
  have cb91 := b9.cell 1 _ rfl
  have yb91 := b9.frozen 1
  have cb92 := b9.cell 2 _ rfl
  have yb92 := b9.frozen 2
  have cb93 := b9.cell 3 _ rfl
  have yb93 := b9.frozen 3
  have cb94 := b9.cell 4 _ rfl
  have yb94 := b9.frozen 4
  have cb95 := b9.cell 5 _ rfl
  have yb95 := b9.frozen 5
  refine wpAnyH_ready (rs := [2]) (by kernel_rfl) (by simp) (AllReadyH.cons (o := _) rfl (fun K hK => ?_) AllReadyH.nil)
  go_simp
  clear cb90 yb90 cb91 yb91 cb92 yb92 cb93 yb93 cb94 yb94 cb95 yb95
  have hg := only_store6 v7 (w.heap.size) (.bool false) (.slice none 0 0) (.slice none 0 0) (.bool false) (.slice none 0 0) (.slice none 0 0)
  have hB := b9.stored6 (.bool false) (.slice none 0 0) (.slice none 0 0) (.bool false) (.slice none 0 0) (.slice none 0 0)
  generalize hX : ((((((v7.setCell ⟨w.heap.size, 0, none⟩ (.bool false)).setCell ⟨w.heap.size, 1, none⟩ (.slice none 0 0)).setCell ⟨w.heap.size, 2, none⟩ (.slice none 0 0)).setCell ⟨w.heap.size, 3, none⟩ (.bool false)).setCell ⟨w.heap.size, 4, none⟩ (.slice none 0 0)).setCell ⟨w.heap.size, 5, none⟩ (.slice none 0 0)) = X8 at hg hB ⊢
  clear hX
  replace b1 := b1.other hg (by omega)
  replace b2 := b2.other hg (by omega)
  replace b9 := hB
  replace H0 := below_only H0 hg (by omega) H0.size
  clear hg hB
  refine hK.out _ _ (HS.out _ H0) (fun hHeld => ?_)
  clear hK K
  (try simp only [List.getElem_toArray, List.getElem_cons_succ, List.getElem_cons_zero, Act.put, List.setIfInBounds_toArray, List.set_cons_zero, List.set_cons_succ])
  refine wpAnyH_take (i := 3) (v := ?_) rfl (by kernel_rfl) (by kernel_rfl) (by kernel_rfl) (fun _ _ _ h => h) (Or.inl ⟨by rfl, ?_⟩) (by assumption) ?_
  rotate_left
  · (intro w hSw; (try dsimp only at hSw); go_simp; (try with_reducible rfl))
  (try simp only [List.getElem_toArray, List.getElem_cons_succ, List.getElem_cons_zero, Act.put, List.setIfInBounds_toArray, List.set_cons_zero, List.set_cons_succ])
  refine wpAnyH_done (by kernel_rfl) ?_ _
  refine NoPanic.normal ?_
  go_wp2_with fail
  refine bodyPost_ret (ret_point_e rfl rfl b9) rfl ?_
  exact ⟨rfl, H0⟩
set_option maxRecDepth 100000 in
set_option maxHeartbeats 4000000 in
theorem pparse_sn {a : Addr} {bs : List Nat} (hb : OkB bs) (hl : bs.length ≤ 1000) (hS : w.cell? ⟨0, 0, none⟩ = some (.iface 195 (.pointer (some a)))) (ho : coordOk bs = true) (HX : ∀ W : World, Below w.heap.size w W → Calls Tryz.prog 25 #[.string (strB (coordX bs))] W fun e w' => ∃ st : ByteArray, ∃ s0 A0 n0 c0 D0 m0 e0, e = .returned (.tuple #[.agg #[.bool s0, .slice A0 n0 c0, .slice D0 m0 e0], .iface 103 (.agg #[.string st, .iface 195 (.pointer (some a))])]) ∧ Below W.heap.size W w') (HY : ∀ W : World, Below w.heap.size w W → Calls Tryz.prog 25 #[.string (strB (coordY bs))] W fun e w' => ∃ s1 A1 n1 c1 D1 m1 e1, e = .returned (.tuple #[.agg #[.bool s1, .slice A1 n1 c1, .slice D1 m1 e1], .nilIface]) ∧ NQ w' s1 (.slice A1 n1 c1) (.slice D1 m1 e1) q1 L0 ∧ Below W.heap.size W w') :
    Calls Tryz.prog 7 #[.string (strB bs)] w fun e w' => ∃ st : ByteArray, e = .returned (.tuple #[.agg #[.bool false, .slice none 0 0, .slice none 0 0, .bool false, .slice none 0 0, .slice none 0 0], .iface 103 (.agg #[.string st, .iface 195 (.pointer (some a))])]) ∧ Below w.heap.size w w' := by
  have blkS := World.block_lt_of_cell? _ _ hS
  have HS := Lib.hid (fun (W : World) (h : Below w.heap.size w W) => (h.cell (p := ⟨0, 0, none⟩) blkS).trans hS)
  have HC := Lib.hid (fun W => coord_v (w := W) hb hl)
  have HO := Lib.hid ho
  have HX := Lib.hid HX
  have HY := Lib.hid HY
  clear hb hl hS ho blkS
  generalize strB bs = sb at HC ⊢
  generalize strB (coordX bs) = sx at HC HX
  generalize strB (coordY bs) = sy at HC HY
  go_enter Tryz.func7, Tryz.ntmps7
  go_wp2_with fail
  obtain ⟨W0, hW, b9, hbW, hszW0⟩ := boxes1 w #[.bool false, .slice none 0 0, .slice none 0 0, .bool false, .slice none 0 0, .slice none 0 0] 31
  rw [hW]
  clear hW
  have H0 := hbW
  clear hbW
  go_wp2_with fail
  refine (HC.out _).mono ?_
  rintro e w1 ⟨rfl, hb⟩
  replace b9 := b9.below hb
  replace H0 := H0.trans (hb.mono H0.size)
  clear hb
  rw [HO.out]
  go_wp2_with fail
  refine (HX.out _ H0).mono ?_
  rintro e w2 ⟨u0, s0, A0, n0, c0, D0, m0, e0, rfl, hb⟩
  replace b9 := b9.below hb
  replace H0 := H0.trans (hb.mono H0.size)
  clear hb
  have lb9_3 := b9.lt
  obtain ⟨W3, hW, b1, hbW, hszW3⟩ := boxes1 w2 #[.bool s0, .slice A0 n0 c0, .slice D0 m0 e0] 29
  skip
  skip
  replace b9 := b9.below hbW
  replace H0 := H0.trans (hbW.mono H0.size)
  clear hbW
  go_wp2_with fail
  clear hW
  refine (HY.out _ H0).mono ?_
  rintro e w4 ⟨s1, A1, n1, c1, D1, m1, e1, rfl, g1, hb⟩
  replace b9 := b9.below hb
  replace b1 := b1.below hb
  replace H0 := H0.trans (hb.mono H0.size)
  clear hb
  have lb9_5 := b9.lt
  have lb1_5 := b1.lt
  obtain ⟨W5, hW, b2, hbW, hszW5⟩ := boxes1 w4 #[.bool s1, .slice A1 n1 c1, .slice D1 m1 e1] 29
  skip
  skip
  replace g1 := g1.below hbW
  replace b9 := b9.below hbW
  replace b1 := b1.below hbW
  replace H0 := H0.trans (hbW.mono H0.size)
  clear hbW
  have cS := HS.out _ H0
  go_wp2_with fail
  clear hW cS
  refine (is_nil_b _ _ _).mono ?_
  rintro e w6 ⟨rfl, hb⟩
  replace g1 := g1.below hb
  replace b9 := b9.below hb
  replace b1 := b1.below hb
  replace b2 := b2.below hb
  replace H0 := H0.trans (hb.mono H0.size)
  clear hb
  have cb90 := b9.cell 0 _ rfl
  have yb90 := b9.frozen 0
  have cb91 := b9.cell 1 _ rfl
  have yb91 := b9.frozen 1
  have cb92 := b9.cell 2 _ rfl
  have yb92 := b9.frozen 2
  have cb93 := b9.cell 3 _ rfl
  have yb93 := b9.frozen 3
  have cb94 := b9.cell 4 _ rfl
  have yb94 := b9.frozen 4
  have cb95 := b9.cell 5 _ rfl
  have yb95 := b9.frozen 5
  go_wp2_with fail
  clear cb90 yb90 cb91 yb91 cb92 yb92 cb93 yb93 cb94 yb94 cb95 yb95
  have hg := only_store6 w6 (w.heap.size) (.bool false) (.slice none 0 0) (.slice none 0 0) (.bool false) (.slice none 0 0) (.slice none 0 0)
  have hB := b9.stored6 (.bool false) (.slice none 0 0) (.slice none 0 0) (.bool false) (.slice none 0 0) (.slice none 0 0)
  generalize hX : ((((((w6.setCell ⟨w.heap.size, 0, none⟩ (.bool false)).setCell ⟨w.heap.size, 1, none⟩ (.slice none 0 0)).setCell ⟨w.heap.size, 2, none⟩ (.slice none 0 0)).setCell ⟨w.heap.size, 3, none⟩ (.bool false)).setCell ⟨w.heap.size, 4, none⟩ (.slice none 0 0)).setCell ⟨w.heap.size, 5, none⟩ (.slice none 0 0)) = X7 at hg hB ⊢
  clear hX
  replace g1 := g1.kept b9 (by simp [notInt]) hg
  replace b1 := b1.other hg (by omega)
  replace b2 := b2.other hg (by omega)
  replace b9 := hB
  replace H0 := below_only H0 hg (by omega) H0.size
  clear hg hB
  refine bodyPost_ret (ret_point_e rfl rfl b9) rfl ?_
  exact ⟨u0, rfl, H0⟩
set_option maxRecDepth 100000 in
set_option maxHeartbeats 4000000 in
theorem pparse_sr {a a' : Addr} {bs : List Nat} (hb : OkB bs) (hl : bs.length ≤ 1000) (hS : w.cell? ⟨0, 0, none⟩ = some (.iface 195 (.pointer (some a)))) (ho : coordOk bs = true) (HX : ∀ W : World, Below w.heap.size w W → Calls Tryz.prog 25 #[.string (strB (coordX bs))] W fun e w' => ∃ st : ByteArray, ∃ s0 A0 n0 c0 D0 m0 e0, e = .returned (.tuple #[.agg #[.bool s0, .slice A0 n0 c0, .slice D0 m0 e0], .iface 103 (.agg #[.string st, .iface 195 (.pointer (some a))])]) ∧ Below W.heap.size W w') (HY : ∀ W : World, Below w.heap.size w W → Calls Tryz.prog 25 #[.string (strB (coordY bs))] W fun e w' => ∃ st : ByteArray, ∃ s1 A1 n1 c1 D1 m1 e1, e = .returned (.tuple #[.agg #[.bool s1, .slice A1 n1 c1, .slice D1 m1 e1], .iface 103 (.agg #[.string st, .iface 195 (.pointer (some a'))])]) ∧ Below W.heap.size W w') (hne : a' ≠ a) {ca cb : Array Value} {ta tb : TypeId} (ha : w.heap[a.block]? = some (.cells ca ta (0, 0))) (hb' : w.heap[a'.block]? = some (.cells cb tb (0, 0))) :
    Calls Tryz.prog 7 #[.string (strB bs)] w fun e w' => ∃ st : ByteArray, e = .returned (.tuple #[.agg #[.bool false, .slice none 0 0, .slice none 0 0, .bool false, .slice none 0 0, .slice none 0 0], .iface 103 (.agg #[.string st, .iface 195 (.pointer (some a))])]) ∧ Below w.heap.size w w' := by
  have blkS := World.block_lt_of_cell? _ _ hS
  have HS := Lib.hid (fun (W : World) (h : Below w.heap.size w W) => (h.cell (p := ⟨0, 0, none⟩) blkS).trans hS)
  have HC := Lib.hid (fun W => coord_v (w := W) hb hl)
  have HO := Lib.hid ho
  have HX := Lib.hid HX
  have HY := Lib.hid HY
  have hax : Box w a.block ca ta := ha
  have hbx : Box w a'.block cb tb := hb'
  have HN := Lib.hid (fun (s : ByteArray) (W : World) (h : Below w.heap.size w W) => is_part_no s W hne (hax.below h) (hbx.below h))
  clear hax hbx ha hb' hne
  clear hb hl hS ho blkS
  generalize strB bs = sb at HC ⊢
  generalize strB (coordX bs) = sx at HC HX
  generalize strB (coordY bs) = sy at HC HY
  go_enter Tryz.func7, Tryz.ntmps7
  go_wp2_with fail
  obtain ⟨W0, hW, b9, hbW, hszW0⟩ := boxes1 w #[.bool false, .slice none 0 0, .slice none 0 0, .bool false, .slice none 0 0, .slice none 0 0] 31
  rw [hW]
  clear hW
  have H0 := hbW
  clear hbW
  go_wp2_with fail
  refine (HC.out _).mono ?_
  rintro e w1 ⟨rfl, hb⟩
  replace b9 := b9.below hb
  replace H0 := H0.trans (hb.mono H0.size)
  clear hb
  rw [HO.out]
  go_wp2_with fail
  refine (HX.out _ H0).mono ?_
  rintro e w2 ⟨u0, s0, A0, n0, c0, D0, m0, e0, rfl, hb⟩
  replace b9 := b9.below hb
  replace H0 := H0.trans (hb.mono H0.size)
  clear hb
  have lb9_3 := b9.lt
  obtain ⟨W3, hW, b1, hbW, hszW3⟩ := boxes1 w2 #[.bool s0, .slice A0 n0 c0, .slice D0 m0 e0] 29
  skip
  skip
  replace b9 := b9.below hbW
  replace H0 := H0.trans (hbW.mono H0.size)
  clear hbW
  go_wp2_with fail
  clear hW
  refine (HY.out _ H0).mono ?_
  rintro e w4 ⟨u1, s1, A1, n1, c1, D1, m1, e1, rfl, hb⟩
  replace b9 := b9.below hb
  replace b1 := b1.below hb
  replace H0 := H0.trans (hb.mono H0.size)
  clear hb
  have lb9_5 := b9.lt
  have lb1_5 := b1.lt
  obtain ⟨W5, hW, b2, hbW, hszW5⟩ := boxes1 w4 #[.bool s1, .slice A1 n1 c1, .slice D1 m1 e1] 29
  skip
  skip
  replace b9 := b9.below hbW
  replace b1 := b1.below hbW
  replace H0 := H0.trans (hbW.mono H0.size)
  clear hbW
  have cS := HS.out _ H0
  go_wp2_with fail
  clear hW cS
  refine (HN.out u1 _ H0).mono ?_
  rintro e w6 ⟨rfl, hb⟩
  replace b9 := b9.below hb
  replace b1 := b1.below hb
  replace b2 := b2.below hb
  replace H0 := H0.trans (hb.mono H0.size)
  clear hb
  have cb90 := b9.cell 0 _ rfl
  have yb90 := b9.frozen 0
  have cb91 := b9.cell 1 _ rfl
  have yb91 := b9.frozen 1
  have cb92 := b9.cell 2 _ rfl
  have yb92 := b9.frozen 2
  have cb93 := b9.cell 3 _ rfl
  have yb93 := b9.frozen 3
  have cb94 := b9.cell 4 _ rfl
  have yb94 := b9.frozen 4
  have cb95 := b9.cell 5 _ rfl
  have yb95 := b9.frozen 5
  go_wp2_with fail
  clear cb90 yb90 cb91 yb91 cb92 yb92 cb93 yb93 cb94 yb94 cb95 yb95
  have hg := only_store6 w6 (w.heap.size) (.bool false) (.slice none 0 0) (.slice none 0 0) (.bool false) (.slice none 0 0) (.slice none 0 0)
  have hB := b9.stored6 (.bool false) (.slice none 0 0) (.slice none 0 0) (.bool false) (.slice none 0 0) (.slice none 0 0)
  generalize hX : ((((((w6.setCell ⟨w.heap.size, 0, none⟩ (.bool false)).setCell ⟨w.heap.size, 1, none⟩ (.slice none 0 0)).setCell ⟨w.heap.size, 2, none⟩ (.slice none 0 0)).setCell ⟨w.heap.size, 3, none⟩ (.bool false)).setCell ⟨w.heap.size, 4, none⟩ (.slice none 0 0)).setCell ⟨w.heap.size, 5, none⟩ (.slice none 0 0)) = X7 at hg hB ⊢
  clear hX
  replace b1 := b1.other hg (by omega)
  replace b2 := b2.other hg (by omega)
  replace b9 := hB
  replace H0 := below_only H0 hg (by omega) H0.size
  clear hg hB
  refine bodyPost_ret (ret_point_e rfl rfl b9) rfl ?_
  exact ⟨u0, rfl, H0⟩
set_option maxRecDepth 100000 in
set_option maxHeartbeats 4000000 in
theorem pparse_rn {a a' : Addr} {bs : List Nat} (hb : OkB bs) (hl : bs.length ≤ 1000) (hS : w.cell? ⟨0, 0, none⟩ = some (.iface 195 (.pointer (some a)))) (ho : coordOk bs = true) (HX : ∀ W : World, Below w.heap.size w W → Calls Tryz.prog 25 #[.string (strB (coordX bs))] W fun e w' => ∃ st : ByteArray, ∃ s0 A0 n0 c0 D0 m0 e0, e = .returned (.tuple #[.agg #[.bool s0, .slice A0 n0 c0, .slice D0 m0 e0], .iface 103 (.agg #[.string st, .iface 195 (.pointer (some a'))])]) ∧ Below W.heap.size W w') (HY : ∀ W : World, Below w.heap.size w W → Calls Tryz.prog 25 #[.string (strB (coordY bs))] W fun e w' => ∃ s1 A1 n1 c1 D1 m1 e1, e = .returned (.tuple #[.agg #[.bool s1, .slice A1 n1 c1, .slice D1 m1 e1], .nilIface]) ∧ NQ w' s1 (.slice A1 n1 c1) (.slice D1 m1 e1) q1 L0 ∧ Below W.heap.size W w') :
    Calls Tryz.prog 7 #[.string (strB bs)] w fun e w' => ∃ st : ByteArray, e = .returned (.tuple #[.agg #[.bool false, .slice none 0 0, .slice none 0 0, .bool false, .slice none 0 0, .slice none 0 0], .iface 103 (.agg #[.string st, .iface 195 (.pointer (some a'))])]) ∧ Below w.heap.size w w' := by
  have blkS := World.block_lt_of_cell? _ _ hS
  have HS := Lib.hid (fun (W : World) (h : Below w.heap.size w W) => (h.cell (p := ⟨0, 0, none⟩) blkS).trans hS)
  have HC := Lib.hid (fun W => coord_v (w := W) hb hl)
  have HO := Lib.hid ho
  have HX := Lib.hid HX
  have HY := Lib.hid HY
  clear hb hl hS ho blkS
  generalize strB bs = sb at HC ⊢
  generalize strB (coordX bs) = sx at HC HX
  generalize strB (coordY bs) = sy at HC HY
  go_enter Tryz.func7, Tryz.ntmps7
  go_wp2_with fail
  obtain ⟨W0, hW, b9, hbW, hszW0⟩ := boxes1 w #[.bool false, .slice none 0 0, .slice none 0 0, .bool false, .slice none 0 0, .slice none 0 0] 31
  rw [hW]
  clear hW
  have H0 := hbW
  clear hbW
  go_wp2_with fail
  refine (HC.out _).mono ?_
  rintro e w1 ⟨rfl, hb⟩
  replace b9 := b9.below hb
  replace H0 := H0.trans (hb.mono H0.size)
  clear hb
  rw [HO.out]
  go_wp2_with fail
  refine (HX.out _ H0).mono ?_
  rintro e w2 ⟨u0, s0, A0, n0, c0, D0, m0, e0, rfl, hb⟩
  replace b9 := b9.below hb
  replace H0 := H0.trans (hb.mono H0.size)
  clear hb
  have lb9_3 := b9.lt
  obtain ⟨W3, hW, b1, hbW, hszW3⟩ := boxes1 w2 #[.bool s0, .slice A0 n0 c0, .slice D0 m0 e0] 29
  skip
  skip
  replace b9 := b9.below hbW
  replace H0 := H0.trans (hbW.mono H0.size)
  clear hbW
  go_wp2_with fail
  clear hW
  refine (HY.out _ H0).mono ?_
  rintro e w4 ⟨s1, A1, n1, c1, D1, m1, e1, rfl, g1, hb⟩
  replace b9 := b9.below hb
  replace b1 := b1.below hb
  replace H0 := H0.trans (hb.mono H0.size)
  clear hb
  have lb9_5 := b9.lt
  have lb1_5 := b1.lt
  obtain ⟨W5, hW, b2, hbW, hszW5⟩ := boxes1 w4 #[.bool s1, .slice A1 n1 c1, .slice D1 m1 e1] 29
  skip
  skip
  replace g1 := g1.below hbW
  replace b9 := b9.below hbW
  replace b1 := b1.below hbW
  replace H0 := H0.trans (hbW.mono H0.size)
  clear hbW
  have cS := HS.out _ H0
  go_wp2_with fail
  clear hW cS
  refine (is_nil_b _ _ _).mono ?_
  rintro e w6 ⟨rfl, hb⟩
  replace g1 := g1.below hb
  replace b9 := b9.below hb
  replace b1 := b1.below hb
  replace b2 := b2.below hb
  replace H0 := H0.trans (hb.mono H0.size)
  clear hb
  have cb90 := b9.cell 0 _ rfl
  have yb90 := b9.frozen 0
  have cb91 := b9.cell 1 _ rfl
  have yb91 := b9.frozen 1
  have cb92 := b9.cell 2 _ rfl
  have yb92 := b9.frozen 2
  have cb93 := b9.cell 3 _ rfl
  have yb93 := b9.frozen 3
  have cb94 := b9.cell 4 _ rfl
  have yb94 := b9.frozen 4
  have cb95 := b9.cell 5 _ rfl
  have yb95 := b9.frozen 5
  go_wp2_with fail
  clear cb90 yb90 cb91 yb91 cb92 yb92 cb93 yb93 cb94 yb94 cb95 yb95
  have hg := only_store6 w6 (w.heap.size) (.bool false) (.slice none 0 0) (.slice none 0 0) (.bool false) (.slice none 0 0) (.slice none 0 0)
  have hB := b9.stored6 (.bool false) (.slice none 0 0) (.slice none 0 0) (.bool false) (.slice none 0 0) (.slice none 0 0)
  generalize hX : ((((((w6.setCell ⟨w.heap.size, 0, none⟩ (.bool false)).setCell ⟨w.heap.size, 1, none⟩ (.slice none 0 0)).setCell ⟨w.heap.size, 2, none⟩ (.slice none 0 0)).setCell ⟨w.heap.size, 3, none⟩ (.bool false)).setCell ⟨w.heap.size, 4, none⟩ (.slice none 0 0)).setCell ⟨w.heap.size, 5, none⟩ (.slice none 0 0)) = X7 at hg hB ⊢
  clear hX
  replace g1 := g1.kept b9 (by simp [notInt]) hg
  replace b1 := b1.other hg (by omega)
  replace b2 := b2.other hg (by omega)
  replace b9 := hB
  replace H0 := below_only H0 hg (by omega) H0.size
  clear hg hB
  refine bodyPost_ret (ret_point_e rfl rfl b9) rfl ?_
  exact ⟨u0, rfl, H0⟩
set_option maxRecDepth 100000 in
set_option maxHeartbeats 4000000 in
theorem pparse_rr {a a' : Addr} {bs : List Nat} (hb : OkB bs) (hl : bs.length ≤ 1000) (hS : w.cell? ⟨0, 0, none⟩ = some (.iface 195 (.pointer (some a)))) (ho : coordOk bs = true) (HX : ∀ W : World, Below w.heap.size w W → Calls Tryz.prog 25 #[.string (strB (coordX bs))] W fun e w' => ∃ st : ByteArray, ∃ s0 A0 n0 c0 D0 m0 e0, e = .returned (.tuple #[.agg #[.bool s0, .slice A0 n0 c0, .slice D0 m0 e0], .iface 103 (.agg #[.string st, .iface 195 (.pointer (some a'))])]) ∧ Below W.heap.size W w') (HY : ∀ W : World, Below w.heap.size w W → Calls Tryz.prog 25 #[.string (strB (coordY bs))] W fun e w' => ∃ st : ByteArray, ∃ s1 A1 n1 c1 D1 m1 e1, e = .returned (.tuple #[.agg #[.bool s1, .slice A1 n1 c1, .slice D1 m1 e1], .iface 103 (.agg #[.string st, .iface 195 (.pointer (some a'))])]) ∧ Below W.heap.size W w') (hne : a' ≠ a) {ca cb : Array Value} {ta tb : TypeId} (ha : w.heap[a.block]? = some (.cells ca ta (0, 0))) (hb' : w.heap[a'.block]? = some (.cells cb tb (0, 0))) :
    Calls Tryz.prog 7 #[.string (strB bs)] w fun e w' => ∃ st : ByteArray, e = .returned (.tuple #[.agg #[.bool false, .slice none 0 0, .slice none 0 0, .bool false, .slice none 0 0, .slice none 0 0], .iface 103 (.agg #[.string st, .iface 195 (.pointer (some a'))])]) ∧ Below w.heap.size w w' := by
  have blkS := World.block_lt_of_cell? _ _ hS
  have HS := Lib.hid (fun (W : World) (h : Below w.heap.size w W) => (h.cell (p := ⟨0, 0, none⟩) blkS).trans hS)
  have HC := Lib.hid (fun W => coord_v (w := W) hb hl)
  have HO := Lib.hid ho
  have HX := Lib.hid HX
  have HY := Lib.hid HY
  have hax : Box w a.block ca ta := ha
  have hbx : Box w a'.block cb tb := hb'
  have HN := Lib.hid (fun (s : ByteArray) (W : World) (h : Below w.heap.size w W) => is_part_no s W hne (hax.below h) (hbx.below h))
  clear hax hbx ha hb' hne
  clear hb hl hS ho blkS
  generalize strB bs = sb at HC ⊢
  generalize strB (coordX bs) = sx at HC HX
  generalize strB (coordY bs) = sy at HC HY
  go_enter Tryz.func7, Tryz.ntmps7
  go_wp2_with fail
  obtain ⟨W0, hW, b9, hbW, hszW0⟩ := boxes1 w #[.bool false, .slice none 0 0, .slice none 0 0, .bool false, .slice none 0 0, .slice none 0 0] 31
  rw [hW]
  clear hW
  have H0 := hbW
  clear hbW
  go_wp2_with fail
  refine (HC.out _).mono ?_
  rintro e w1 ⟨rfl, hb⟩
  replace b9 := b9.below hb
  replace H0 := H0.trans (hb.mono H0.size)
  clear hb
  rw [HO.out]
  go_wp2_with fail
  refine (HX.out _ H0).mono ?_
  rintro e w2 ⟨u0, s0, A0, n0, c0, D0, m0, e0, rfl, hb⟩
  replace b9 := b9.below hb
  replace H0 := H0.trans (hb.mono H0.size)
  clear hb
  have lb9_3 := b9.lt
  obtain ⟨W3, hW, b1, hbW, hszW3⟩ := boxes1 w2 #[.bool s0, .slice A0 n0 c0, .slice D0 m0 e0] 29
  skip
  skip
  replace b9 := b9.below hbW
  replace H0 := H0.trans (hbW.mono H0.size)
  clear hbW
  go_wp2_with fail
  clear hW
  refine (HY.out _ H0).mono ?_
  rintro e w4 ⟨u1, s1, A1, n1, c1, D1, m1, e1, rfl, hb⟩
  replace b9 := b9.below hb
  replace b1 := b1.below hb
  replace H0 := H0.trans (hb.mono H0.size)
  clear hb
  have lb9_5 := b9.lt
  have lb1_5 := b1.lt
  obtain ⟨W5, hW, b2, hbW, hszW5⟩ := boxes1 w4 #[.bool s1, .slice A1 n1 c1, .slice D1 m1 e1] 29
  skip
  skip
  replace b9 := b9.below hbW
  replace b1 := b1.below hbW
  replace H0 := H0.trans (hbW.mono H0.size)
  clear hbW
  have cS := HS.out _ H0
  go_wp2_with fail
  clear hW cS
  refine (HN.out u1 _ H0).mono ?_
  rintro e w6 ⟨rfl, hb⟩
  replace b9 := b9.below hb
  replace b1 := b1.below hb
  replace b2 := b2.below hb
  replace H0 := H0.trans (hb.mono H0.size)
  clear hb
  have cb90 := b9.cell 0 _ rfl
  have yb90 := b9.frozen 0
  have cb91 := b9.cell 1 _ rfl
  have yb91 := b9.frozen 1
  have cb92 := b9.cell 2 _ rfl
  have yb92 := b9.frozen 2
  have cb93 := b9.cell 3 _ rfl
  have yb93 := b9.frozen 3
  have cb94 := b9.cell 4 _ rfl
  have yb94 := b9.frozen 4
  have cb95 := b9.cell 5 _ rfl
  have yb95 := b9.frozen 5
  go_wp2_with fail
  clear cb90 yb90 cb91 yb91 cb92 yb92 cb93 yb93 cb94 yb94 cb95 yb95
  have hg := only_store6 w6 (w.heap.size) (.bool false) (.slice none 0 0) (.slice none 0 0) (.bool false) (.slice none 0 0) (.slice none 0 0)
  have hB := b9.stored6 (.bool false) (.slice none 0 0) (.slice none 0 0) (.bool false) (.slice none 0 0) (.slice none 0 0)
  generalize hX : ((((((w6.setCell ⟨w.heap.size, 0, none⟩ (.bool false)).setCell ⟨w.heap.size, 1, none⟩ (.slice none 0 0)).setCell ⟨w.heap.size, 2, none⟩ (.slice none 0 0)).setCell ⟨w.heap.size, 3, none⟩ (.bool false)).setCell ⟨w.heap.size, 4, none⟩ (.slice none 0 0)).setCell ⟨w.heap.size, 5, none⟩ (.slice none 0 0)) = X7 at hg hB ⊢
  clear hX
  replace b1 := b1.other hg (by omega)
  replace b2 := b2.other hg (by omega)
  replace b9 := hB
  replace H0 := below_only H0 hg (by omega) H0.size
  clear hg hB
  refine bodyPost_ret (ret_point_e rfl rfl b9) rfl ?_
  exact ⟨u0, rfl, H0⟩
set_option maxRecDepth 100000 in
set_option maxHeartbeats 4000000 in
theorem pparse_nr {a a' : Addr} {bs : List Nat} (hb : OkB bs) (hl : bs.length ≤ 1000) (hS : w.cell? ⟨0, 0, none⟩ = some (.iface 195 (.pointer (some a)))) (ho : coordOk bs = true) (HX : ∀ W : World, Below w.heap.size w W → Calls Tryz.prog 25 #[.string (strB (coordX bs))] W fun e w' => ∃ s0 A0 n0 c0 D0 m0 e0, e = .returned (.tuple #[.agg #[.bool s0, .slice A0 n0 c0, .slice D0 m0 e0], .nilIface]) ∧ NQ w' s0 (.slice A0 n0 c0) (.slice D0 m0 e0) q0 L ∧ Below W.heap.size W w') (HY : ∀ W : World, Below w.heap.size w W → Calls Tryz.prog 25 #[.string (strB (coordY bs))] W fun e w' => ∃ st : ByteArray, ∃ s1 A1 n1 c1 D1 m1 e1, e = .returned (.tuple #[.agg #[.bool s1, .slice A1 n1 c1, .slice D1 m1 e1], .iface 103 (.agg #[.string st, .iface 195 (.pointer (some a'))])]) ∧ Below W.heap.size W w') (hne : a' ≠ a) {ca cb : Array Value} {ta tb : TypeId} (ha : w.heap[a.block]? = some (.cells ca ta (0, 0))) (hb' : w.heap[a'.block]? = some (.cells cb tb (0, 0))) :
    Calls Tryz.prog 7 #[.string (strB bs)] w fun e w' => ∃ st : ByteArray, e = .returned (.tuple #[.agg #[.bool false, .slice none 0 0, .slice none 0 0, .bool false, .slice none 0 0, .slice none 0 0], .iface 103 (.agg #[.string st, .iface 195 (.pointer (some a'))])]) ∧ Below w.heap.size w w' := by
  have blkS := World.block_lt_of_cell? _ _ hS
  have HS := Lib.hid (fun (W : World) (h : Below w.heap.size w W) => (h.cell (p := ⟨0, 0, none⟩) blkS).trans hS)
  have HC := Lib.hid (fun W => coord_v (w := W) hb hl)
  have HO := Lib.hid ho
  have HX := Lib.hid HX
  have HY := Lib.hid HY
  have hax : Box w a.block ca ta := ha
  have hbx : Box w a'.block cb tb := hb'
  have HN := Lib.hid (fun (s : ByteArray) (W : World) (h : Below w.heap.size w W) => is_part_no s W hne (hax.below h) (hbx.below h))
  clear hax hbx ha hb' hne
  clear hb hl hS ho blkS
  generalize strB bs = sb at HC ⊢
  generalize strB (coordX bs) = sx at HC HX
  generalize strB (coordY bs) = sy at HC HY
  go_enter Tryz.func7, Tryz.ntmps7
  go_wp2_with fail
  obtain ⟨W0, hW, b9, hbW, hszW0⟩ := boxes1 w #[.bool false, .slice none 0 0, .slice none 0 0, .bool false, .slice none 0 0, .slice none 0 0] 31
  rw [hW]
  clear hW
  have H0 := hbW
  clear hbW
  go_wp2_with fail
  refine (HC.out _).mono ?_
  rintro e w1 ⟨rfl, hb⟩
  replace b9 := b9.below hb
  replace H0 := H0.trans (hb.mono H0.size)
  clear hb
  rw [HO.out]
  go_wp2_with fail
  refine (HX.out _ H0).mono ?_
  rintro e w2 ⟨s0, A0, n0, c0, D0, m0, e0, rfl, g0, hb⟩
  replace b9 := b9.below hb
  replace H0 := H0.trans (hb.mono H0.size)
  clear hb
  have lb9_3 := b9.lt
  obtain ⟨W3, hW, b1, hbW, hszW3⟩ := boxes1 w2 #[.bool s0, .slice A0 n0 c0, .slice D0 m0 e0] 29
  skip
  skip
  replace g0 := g0.below hbW
  replace b9 := b9.below hbW
  replace H0 := H0.trans (hbW.mono H0.size)
  clear hbW
  go_wp2_with fail
  clear hW
  refine (HY.out _ H0).mono ?_
  rintro e w4 ⟨u1, s1, A1, n1, c1, D1, m1, e1, rfl, hb⟩
  replace g0 := g0.below hb
  replace b9 := b9.below hb
  replace b1 := b1.below hb
  replace H0 := H0.trans (hb.mono H0.size)
  clear hb
  have lb9_5 := b9.lt
  have lb1_5 := b1.lt
  obtain ⟨W5, hW, b2, hbW, hszW5⟩ := boxes1 w4 #[.bool s1, .slice A1 n1 c1, .slice D1 m1 e1] 29
  skip
  skip
  replace g0 := g0.below hbW
  replace b9 := b9.below hbW
  replace b1 := b1.below hbW
  replace H0 := H0.trans (hbW.mono H0.size)
  clear hbW
  have cS := HS.out _ H0
  go_wp2_with fail
  clear hW cS
  refine (HN.out u1 _ H0).mono ?_
  rintro e w6 ⟨rfl, hb⟩
  replace g0 := g0.below hb
  replace b9 := b9.below hb
  replace b1 := b1.below hb
  replace b2 := b2.below hb
  replace H0 := H0.trans (hb.mono H0.size)
  clear hb
  have cb90 := b9.cell 0 _ rfl
  have yb90 := b9.frozen 0
  have cb91 := b9.cell 1 _ rfl
  have yb91 := b9.frozen 1
  have cb92 := b9.cell 2 _ rfl
  have yb92 := b9.frozen 2
  have cb93 := b9.cell 3 _ rfl
  have yb93 := b9.frozen 3
  have cb94 := b9.cell 4 _ rfl
  have yb94 := b9.frozen 4
  have cb95 := b9.cell 5 _ rfl
  have yb95 := b9.frozen 5
  go_wp2_with fail
  clear cb90 yb90 cb91 yb91 cb92 yb92 cb93 yb93 cb94 yb94 cb95 yb95
  have hg := only_store6 w6 (w.heap.size) (.bool false) (.slice none 0 0) (.slice none 0 0) (.bool false) (.slice none 0 0) (.slice none 0 0)
  have hB := b9.stored6 (.bool false) (.slice none 0 0) (.slice none 0 0) (.bool false) (.slice none 0 0) (.slice none 0 0)
  generalize hX : ((((((w6.setCell ⟨w.heap.size, 0, none⟩ (.bool false)).setCell ⟨w.heap.size, 1, none⟩ (.slice none 0 0)).setCell ⟨w.heap.size, 2, none⟩ (.slice none 0 0)).setCell ⟨w.heap.size, 3, none⟩ (.bool false)).setCell ⟨w.heap.size, 4, none⟩ (.slice none 0 0)).setCell ⟨w.heap.size, 5, none⟩ (.slice none 0 0)) = X7 at hg hB ⊢
  clear hX
  replace g0 := g0.kept b9 (by simp [notInt]) hg
  replace b1 := b1.other hg (by omega)
  replace b2 := b2.other hg (by omega)
  replace b9 := hB
  replace H0 := below_only H0 hg (by omega) H0.size
  clear hg hB
  refine bodyPost_ret (ret_point_e rfl rfl b9) rfl ?_
  exact ⟨u1, rfl, H0⟩
set_option maxRecDepth 100000 in
set_option maxHeartbeats 4000000 in
theorem pparse_yes {a : Addr} {bs : List Nat} (hb : OkB bs) (hl : bs.length ≤ 1000) (hS : w.cell? ⟨0, 0, none⟩ = some (.iface 195 (.pointer (some a)))) (ho : coordOk bs = true) (HX : ∀ W : World, Below w.heap.size w W → Calls Tryz.prog 25 #[.string (strB (coordX bs))] W fun e w' => ∃ s0 A0 n0 c0 D0 m0 e0, e = .returned (.tuple #[.agg #[.bool s0, .slice A0 n0 c0, .slice D0 m0 e0], .nilIface]) ∧ NQ w' s0 (.slice A0 n0 c0) (.slice D0 m0 e0) q0 L ∧ Below W.heap.size W w') (HY : ∀ W : World, Below w.heap.size w W → Calls Tryz.prog 25 #[.string (strB (coordY bs))] W fun e w' => ∃ s1 A1 n1 c1 D1 m1 e1, e = .returned (.tuple #[.agg #[.bool s1, .slice A1 n1 c1, .slice D1 m1 e1], .nilIface]) ∧ NQ w' s1 (.slice A1 n1 c1) (.slice D1 m1 e1) q1 L0 ∧ Below W.heap.size W w') :
    Calls Tryz.prog 7 #[.string (strB bs)] w fun e w' => ∃ s0 A0 n0 c0 D0 m0 e0 s1 A1 n1 c1 D1 m1 e1, e = .returned (.tuple #[.agg #[.bool s0, .slice A0 n0 c0, .slice D0 m0 e0, .bool s1, .slice A1 n1 c1, .slice D1 m1 e1], .nilIface]) ∧ NQ w' s0 (.slice A0 n0 c0) (.slice D0 m0 e0) q0 L ∧ NQ w' s1 (.slice A1 n1 c1) (.slice D1 m1 e1) q1 L0 ∧ Below w.heap.size w w' := by
  have blkS := World.block_lt_of_cell? _ _ hS
  have HS := Lib.hid (fun (W : World) (h : Below w.heap.size w W) => (h.cell (p := ⟨0, 0, none⟩) blkS).trans hS)
  have HC := Lib.hid (fun W => coord_v (w := W) hb hl)
  have HO := Lib.hid ho
  have HX := Lib.hid HX
  have HY := Lib.hid HY
  clear hb hl hS ho blkS
  generalize strB bs = sb at HC ⊢
  generalize strB (coordX bs) = sx at HC HX
  generalize strB (coordY bs) = sy at HC HY
  go_enter Tryz.func7, Tryz.ntmps7
  go_wp2_with fail
  obtain ⟨W0, hW, b9, hbW, hszW0⟩ := boxes1 w #[.bool false, .slice none 0 0, .slice none 0 0, .bool false, .slice none 0 0, .slice none 0 0] 31
  rw [hW]
  clear hW
  have H0 := hbW
  clear hbW
  go_wp2_with fail
  refine (HC.out _).mono ?_
  rintro e w1 ⟨rfl, hb⟩
  replace b9 := b9.below hb
  replace H0 := H0.trans (hb.mono H0.size)
  clear hb
  rw [HO.out]
  go_wp2_with fail
  refine (HX.out _ H0).mono ?_
  rintro e w2 ⟨s0, A0, n0, c0, D0, m0, e0, rfl, g0, hb⟩
  replace b9 := b9.below hb
  replace H0 := H0.trans (hb.mono H0.size)
  clear hb
  have lb9_3 := b9.lt
  obtain ⟨W3, hW, b1, hbW, hszW3⟩ := boxes1 w2 #[.bool s0, .slice A0 n0 c0, .slice D0 m0 e0] 29
  skip
  skip
  replace g0 := g0.below hbW
  replace b9 := b9.below hbW
  replace H0 := H0.trans (hbW.mono H0.size)
  clear hbW
  go_wp2_with fail
  clear hW
  refine (HY.out _ H0).mono ?_
  rintro e w4 ⟨s1, A1, n1, c1, D1, m1, e1, rfl, g1, hb⟩
  replace g0 := g0.below hb
  replace b9 := b9.below hb
  replace b1 := b1.below hb
  replace H0 := H0.trans (hb.mono H0.size)
  clear hb
  have lb9_5 := b9.lt
  have lb1_5 := b1.lt
  obtain ⟨W5, hW, b2, hbW, hszW5⟩ := boxes1 w4 #[.bool s1, .slice A1 n1 c1, .slice D1 m1 e1] 29
  skip
  skip
  replace g0 := g0.below hbW
  replace g1 := g1.below hbW
  replace b9 := b9.below hbW
  replace b1 := b1.below hbW
  replace H0 := H0.trans (hbW.mono H0.size)
  clear hbW
  have cS := HS.out _ H0
  go_wp2_with fail
  clear hW cS
  refine (is_nil_b _ _ _).mono ?_
  rintro e w6 ⟨rfl, hb⟩
  replace g0 := g0.below hb
  replace g1 := g1.below hb
  replace b9 := b9.below hb
  replace b1 := b1.below hb
  replace b2 := b2.below hb
  replace H0 := H0.trans (hb.mono H0.size)
  clear hb
  have cb10 := b1.cell 0 _ rfl
  have cb11 := b1.cell 1 _ rfl
  have cb12 := b1.cell 2 _ rfl
  have cb20 := b2.cell 0 _ rfl
  have cb21 := b2.cell 1 _ rfl
  have cb22 := b2.cell 2 _ rfl
  clear cb10 cb11 cb12 cb20 cb21 cb22
  have cb10 := b1.cell 0 _ rfl
  have cb11 := b1.cell 1 _ rfl
  have cb12 := b1.cell 2 _ rfl
  have cb20 := b2.cell 0 _ rfl
  have cb21 := b2.cell 1 _ rfl
  have cb22 := b2.cell 2 _ rfl
  have cb90 := b9.cell 0 _ rfl
  have yb90 := b9.frozen 0
  have cb91 := b9.cell 1 _ rfl
  have yb91 := b9.frozen 1
  have cb92 := b9.cell 2 _ rfl
  have yb92 := b9.frozen 2
  have cb93 := b9.cell 3 _ rfl
  have yb93 := b9.frozen 3
  have cb94 := b9.cell 4 _ rfl
  have yb94 := b9.frozen 4
  have cb95 := b9.cell 5 _ rfl
  have yb95 := b9.frozen 5
  go_wp2_with fail
  clear cb10 cb11 cb12 cb20 cb21 cb22 cb90 yb90 cb91 yb91 cb92 yb92 cb93 yb93 cb94 yb94 cb95 yb95
  have hg := only_store6 w6 (w.heap.size) (.bool s0) (.slice A0 n0 c0) (.slice D0 m0 e0) (.bool s1) (.slice A1 n1 c1) (.slice D1 m1 e1)
  have hB := b9.stored6 (.bool s0) (.slice A0 n0 c0) (.slice D0 m0 e0) (.bool s1) (.slice A1 n1 c1) (.slice D1 m1 e1)
  generalize hX : ((((((w6.setCell ⟨w.heap.size, 0, none⟩ (.bool s0)).setCell ⟨w.heap.size, 1, none⟩ (.slice A0 n0 c0)).setCell ⟨w.heap.size, 2, none⟩ (.slice D0 m0 e0)).setCell ⟨w.heap.size, 3, none⟩ (.bool s1)).setCell ⟨w.heap.size, 4, none⟩ (.slice A1 n1 c1)).setCell ⟨w.heap.size, 5, none⟩ (.slice D1 m1 e1)) = X7 at hg hB ⊢
  clear hX
  replace g0 := g0.kept b9 (by simp [notInt]) hg
  replace g1 := g1.kept b9 (by simp [notInt]) hg
  replace b1 := b1.other hg (by omega)
  replace b2 := b2.other hg (by omega)
  replace b9 := hB
  replace H0 := below_only H0 hg (by omega) H0.size
  clear hg hB
  refine bodyPost_ret (ret_point_e rfl rfl b9) rfl ?_
  exact ⟨s0, A0, n0, c0, D0, m0, e0, s1, A1, n1, c1, D1, m1, e1, rfl, g0, g1, H0⟩
end
end Go.Proofs.YtancgkmkbgkncaaGreatDoor
