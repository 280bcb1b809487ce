/-
  The walk of the law PointTexts, out of the contracts of what it calls.
-/
import Derived.Test.YtancgkmkbgkncaaGreatDoorY1
import Derived.Test.YtancgkmkbgkncaaGreatDoorX1
import Derived.Test.YtancgkmkbgkncaaGreatDoorT2
import Derived.Test.YtancgkmkbgkncaaGreatDoorPtR
namespace Go.Proofs.YtancgkmkbgkncaaGreatDoor
open Go.RowKit

section
variable {v : Value} {bs : List Nat} {a a' : Addr} {A0 A1 A2 A3 A4 A5 A6 A7 D0 D1 D2 D3 D4 D5 D6 D7 : Option Addr} {n0 n1 n2 n3 n4 n5 n6 n7 c0 c1 c2 c3 c4 c5 c6 c7 m0 m1 m2 m3 m4 m5 m6 m7 e0 e1 e2 e3 e4 e5 e6 e7 : Nat} {s0 s1 s2 s3 s4 s5 s6 s7 : Bool} {q0 q1 q2 q3 q4 q5 q6 q7 : Rat} {z z' z0 z1 : Int} {L L0 L1 x x0 x1 y : Nat} {k : Int} {b : Bool} {w : World}
set_option maxRecDepth 100000 in
set_option maxHeartbeats 16000000 in
theorem pointtexts_any (hb : OkB bs) (HI : Ints w v) (hS : w.cell? ⟨0, 0, none⟩ = some (.iface 195 (.pointer (some a)))) (hR : w.cell? ⟨1, 0, none⟩ = some (.iface 195 (.pointer (some a')))) (htab : Lib.TabIs Tryz.prog w "internal/strconv.uint64pow10" .u64 Lib.pow10Tab) (hne : a' ≠ a) {ca cb : Array Value} {ta tb : TypeId} (ha : w.heap[a.block]? = some (.cells ca ta (0, 0))) (hb' : w.heap[a'.block]? = some (.cells cb tb (0, 0))) :
    Calls Tryz.prog 3 #[.string (strB bs), v] w fun e w' => e = .returned (.bool true) ∧ Below w.heap.size w w' := by
  have blkS := World.block_lt_of_cell? _ _ hS
  have blkR := World.block_lt_of_cell? _ _ hR
  have HS := Lib.hid hS
  have HRr := Lib.hid hR
  have HT := Lib.hid (fun (W : World) (h : Below w.heap.size w W) => Go.Joins.tab_stays (show Tryz.prog.globalNamed "internal/strconv.uint64pow10" = some 5 by kernel_rfl) htab h (Nat.le_refl _))
  have HK := Lib.hid (fun (W : World) (h : Below w.heap.size w W) => known4_any (HT.out W h))
  have hsz := strB_size bs
  rcases Nat.lt_or_ge 100 bs.length with h100 | hl
  · have i100 : (100 : Int) < (bs.length : Int) := by omega
    generalize strB bs = s at *
    clear hb hS hR htab
    go_enter Tryz.func3, Tryz.ntmps3
    go_wp2_with fail
    have H0 := Below.refl w.heap.size w
    refine (HK.out _ H0).mono ?_
    rintro e w0 ⟨rfl, hb⟩
    replace H0 := H0.trans (hb.mono H0.size)
    clear hb
    go_wp2_with fail
    go_returns
    exact ⟨rfl, H0⟩
  · have hc := coord_ok hb
    have hax : Box w a.block ca ta := ha
    have hbx : Box w a'.block cb tb := hb'
    have HP := Lib.hid (fun W (h : Below w.heap.size w W) => pt_parse (w := W) (a := a) (a' := a') (bs := bs) hb (by omega) ((h.cell (p := ⟨0, 0, none⟩) blkS).trans HS.out) ((h.cell (p := ⟨1, 0, none⟩) blkR).trans HRr.out) hne (hax.below h) (hbx.below h))
    have HRX := Lib.hid (fun W (_ : Below w.heap.size w W) => read_any (w := W) hc.1.1 (by have := hc.1.2; omega))
    have HRY := Lib.hid (fun W (_ : Below w.heap.size w W) => read_any (w := W) hc.2.1 (by have := hc.2.2; omega))
    have HFF := Lib.hid (fun h : coordOk bs = true => form_facts h)
    have HAT := Lib.hid (fun k (h : k < (strB bs).size) => strB_at hb h)
    have hhx := hc.1.2
    have hhy := hc.2.2
    have i100 : ¬ (100 : Int) < (bs.length : Int) := by omega
    clear hax hbx ha hb' hne hc hb hS hR htab
    generalize strB bs = s at *
    generalize strB (coordX bs) = sx at *
    generalize strB (coordY bs) = sy at *
    go_enter Tryz.func3, Tryz.ntmps3
    go_wp2_with fail
    have H0 := Below.refl w.heap.size w
    refine (new_any (HI.below H0)).mono ?_
    rintro e w0 ⟨rfl, hT, hb9, hsz3⟩
    replace H0 := H0.trans (hb9.mono H0.size)
    have hlt : w.heap.size < w0.heap.size := by omega
    clear hb9 hsz3 HI
    go_wp2_with fail
    refine (rough_v hT hlt).mono ?_
    rintro e w1 ⟨q0, q1, s8, A8, n8, c8, D8, m8, e8, s9, A9, n9, c9, D9, m9, e9, rfl, f0, f1, hT', hg⟩
    replace H0 := H0.grown hg H0.size (by rintro k hk; injection hk with hk; omega)
    clear hg hT hT' hlt
    obtain ⟨W2, hW, b4, hbW, hszW2⟩ := boxes1 w1 #[.bool s8, .slice A8 n8 c8, .slice D8 m8 e8, .bool s9, .slice A9 n9 c9, .slice D9 m9 e9] 31
    skip
    skip
    replace f0 := f0.below hbW
    replace f1 := f1.below hbW
    replace H0 := H0.trans (hbW.mono H0.size)
    clear hbW
    have cb40 := b4.cell 0 _ rfl
    have cb41 := b4.cell 1 _ rfl
    have cb42 := b4.cell 2 _ rfl
    have cb43 := b4.cell 3 _ rfl
    have cb44 := b4.cell 4 _ rfl
    have cb45 := b4.cell 5 _ rfl
    go_wp2_with fail
    clear hW
    clear cb40 cb41 cb42 cb43 cb44 cb45
    have HQ := Lib.hid (And.intro f0.lts f1.lts)
    have HB := Lib.hid (fun W (h : Below w.heap.size w W) => pback_v (w := W) (q0 := q0) (q1 := q1) (a := a) HQ.out.1 HQ.out.2 ((h.cell (p := ⟨0, 0, none⟩) blkS).trans HS.out))
    have HF := Lib.hid (fun W (h : Below w.heap.size w W) (s2 : Bool) (A2 : Option Addr) (n2 c2 : Nat) (D2 : Option Addr) (m2 e2 : Nat) (s3 : Bool) (A3 : Option Addr) (n3 c3 : Nat) (D3 : Option Addr) (m3 e3 : Nat) (hh : RQ W s2 (.slice A2 n2 c2) (.slice D2 m2 e2) q0 6) (hh' : RQ W s3 (.slice A3 n3 c3) (.slice D3 m3 e3) q1 6) => pformat_v hh hh' (by omega) (HT.out W h))
    have HN := Lib.hid (fun (W : World) (s2 : Bool) (A2 : Option Addr) (n2 c2 : Nat) (D2 : Option Addr) (m2 e2 : Nat) (s3 : Bool) (A3 : Option Addr) (n3 c3 : Nat) (D3 : Option Addr) (m3 e3 : Nat) (hh : PQ W s2 (.slice A2 n2 c2) (.slice D2 m2 e2) q0 6) (hh' : PQ W s3 (.slice A3 n3 c3) (.slice D3 m3 e3) q1 6) => gtext_v hh hh' (by omega) HQ.out.1 HQ.out.2)
    clear HQ
    generalize strB (ptB q0 q1) = tx at HB HF HN
    have cb40 := b4.cell 0 _ rfl
    have cb41 := b4.cell 1 _ rfl
    have cb42 := b4.cell 2 _ rfl
    have cb43 := b4.cell 3 _ rfl
    have cb44 := b4.cell 4 _ rfl
    have cb45 := b4.cell 5 _ rfl
    clear cb40 cb41 cb42 cb43 cb44 cb45
    refine (HF.out _ H0 _ _ _ _ _ _ _ _ _ _ _ _ _ _ f0 f1).mono ?_
    rintro e w3 ⟨rfl, hb⟩
    replace f0 := f0.below hb
    replace f1 := f1.below hb
    replace b4 := b4.below hb
    replace H0 := H0.trans (hb.mono H0.size)
    clear hb
    go_wp2_with fail
    refine (HB.out _ H0).mono ?_
    rintro e w4 ⟨s6, A6, n6, c6, D6, m6, e6, s7, A7, n7, c7, D7, m7, e7, rfl, g1, g2, hb⟩
    replace f0 := f0.below hb
    replace f1 := f1.below hb
    replace b4 := b4.below hb
    replace H0 := H0.trans (hb.mono H0.size)
    clear hb
    have lb4_5 := b4.lt
    obtain ⟨W5, hW, b3, hbW, hszW5⟩ := boxes1 w4 #[.bool s6, .slice A6 n6 c6, .slice D6 m6 e6, .bool s7, .slice A7 n7 c7, .slice D7 m7 e7] 31
    skip
    skip
    replace f0 := f0.below hbW
    replace f1 := f1.below hbW
    replace g1 := g1.below hbW
    replace g2 := g2.below hbW
    replace b4 := b4.below hbW
    replace H0 := H0.trans (hbW.mono H0.size)
    clear hbW
    have cb30 := b3.cell 0 _ rfl
    have cb31 := b3.cell 1 _ rfl
    have cb32 := b3.cell 2 _ rfl
    have cb33 := b3.cell 3 _ rfl
    have cb34 := b3.cell 4 _ rfl
    have cb35 := b3.cell 5 _ rfl
    have cb40 := b4.cell 0 _ rfl
    have cb41 := b4.cell 1 _ rfl
    have cb42 := b4.cell 2 _ rfl
    have cb43 := b4.cell 3 _ rfl
    have cb44 := b4.cell 4 _ rfl
    have cb45 := b4.cell 5 _ rfl
    go_wp2_with fail
    clear hW
    clear cb30 cb31 cb32 cb33 cb34 cb35 cb40 cb41 cb42 cb43 cb44 cb45
    have hD := drawn_below W5
    replace f0 := f0.below hD
    replace f1 := f1.below hD
    replace g1 := g1.below hD
    replace g2 := g2.below hD
    replace b4 := b4.below hD
    replace b3 := b3.below hD
    replace H0 := H0.trans (hD.mono H0.size)
    clear hD
    refine wp_region_noPanic ?_
    refine wp_region_held_drew (S := (fun V => V.cell? ⟨w4.heap.size, 0, none⟩ = some (.bool s6) ∧ V.cell? ⟨w4.heap.size, 1, none⟩ = some (.slice A6 n6 c6) ∧ V.cell? ⟨w4.heap.size, 2, none⟩ = some (.slice D6 m6 e6) ∧ V.cell? ⟨w4.heap.size, 3, none⟩ = some (.bool s7) ∧ V.cell? ⟨w4.heap.size, 4, none⟩ = some (.slice A7 n7 c7) ∧ V.cell? ⟨w4.heap.size, 5, none⟩ = some (.slice D7 m7 e7) ∧ V.cell? ⟨w1.heap.size, 0, none⟩ = some (.bool s8) ∧ V.cell? ⟨w1.heap.size, 1, none⟩ = some (.slice A8 n8 c8) ∧ V.cell? ⟨w1.heap.size, 2, none⟩ = some (.slice D8 m8 e8) ∧ V.cell? ⟨w1.heap.size, 3, none⟩ = some (.bool s9) ∧ V.cell? ⟨w1.heap.size, 4, none⟩ = some (.slice A9 n9 c9) ∧ V.cell? ⟨w1.heap.size, 5, none⟩ = some (.slice D9 m9 e9))) (by kernel_rfl) ⟨b3.cell 0 _ rfl, b3.cell 1 _ rfl, b3.cell 2 _ rfl, b3.cell 3 _ rfl, b3.cell 4 _ rfl, b3.cell 5 _ rfl, b4.cell 0 _ rfl, b4.cell 1 _ rfl, b4.cell 2 _ rfl, b4.cell 3 _ rfl, b4.cell 4 _ rfl, b4.cell 5 _ rfl⟩ (fun hHeld => ?_)
    generalize W5.drew = v6 at H0 hHeld f0 f1 g1 g2 b4 b3 ⊢
    refine wpAnyH_take (i := 0) (v := ?_) rfl (by kernel_rfl) (by kernel_rfl) (by kernel_rfl) (fun _ _ _ h => h) (Or.inl ⟨by rfl, ?_⟩) (by assumption) ?_
    rotate_left
    · (intro w hSw; (try dsimp only at hSw); go_simp; (try with_reducible rfl))
    (try simp only [List.getElem_toArray, List.getElem_cons_zero, Act.put, List.setIfInBounds_toArray, List.set_cons_zero, List.set_cons_succ])
    refine wpAnyH_take (i := 1) (v := ?_) rfl (by kernel_rfl) (by kernel_rfl) (by kernel_rfl) (fun _ _ _ h => h) (Or.inl ⟨by rfl, ?_⟩) (by assumption) ?_
    rotate_left
    · (intro w hSw; (try dsimp only at hSw); go_simp; (try with_reducible rfl))
    (try simp only [List.getElem_toArray, List.getElem_cons_succ, List.getElem_cons_zero, Act.put, List.setIfInBounds_toArray, List.set_cons_zero, List.set_cons_succ])
    refine wpAnyH_take (i := 2) (v := ?_) rfl (by kernel_rfl) (by kernel_rfl) (by kernel_rfl) (fun _ _ _ h => h) (Or.inl ⟨by rfl, ?_⟩) (by assumption) ?_
    rotate_left
    · (intro w hSw; (try dsimp only at hSw); go_simp; (try with_reducible rfl))
    (try simp only [List.getElem_toArray, List.getElem_cons_succ, List.getElem_cons_zero, Act.put, List.setIfInBounds_toArray, List.set_cons_zero, List.set_cons_succ])
    refine wpAnyH_take (i := 3) (v := ?_) rfl (by kernel_rfl) (by kernel_rfl) (by kernel_rfl) (fun _ _ _ h => h) (Or.inl ⟨by rfl, ?_⟩) (by assumption) ?_
    rotate_left
    · (intro w hSw; (try dsimp only at hSw); go_simp; (try with_reducible rfl))
    (try simp only [List.getElem_toArray, List.getElem_cons_succ, List.getElem_cons_zero, Act.put, List.setIfInBounds_toArray, List.set_cons_zero, List.set_cons_succ])
    refine wpAnyH_take (i := 4) (v := ?_) rfl (by kernel_rfl) (by kernel_rfl) (by kernel_rfl) (fun _ _ _ h => h) (Or.inl ⟨by rfl, ?_⟩) (by assumption) ?_
    rotate_left
    · (intro w hSw; (try dsimp only at hSw); go_simp; (try with_reducible rfl))
    (try simp only [List.getElem_toArray, List.getElem_cons_succ, List.getElem_cons_zero, Act.put, List.setIfInBounds_toArray, List.set_cons_zero, List.set_cons_succ])
    refine wpAnyH_ready (rs := [5]) (by kernel_rfl) (by simp) (AllReadyH.cons (o := _) rfl (fun K hK => ?_) AllReadyH.nil)
    go_simp
    go_at_call 10
    refine (gpt_v f0 f1 (by omega)).mono ?_
    rintro e w7 ⟨s2, A2, n2, c2, D2, m2, e2, s3, A3, n3, c3, D3, m3, e3, rfl, g3, g4, hb⟩
    replace f0 := f0.below hb
    replace f1 := f1.below hb
    replace g1 := g1.below hb
    replace g2 := g2.below hb
    replace b4 := b4.below hb
    replace b3 := b3.below hb
    replace H0 := H0.trans (hb.mono H0.size)
    clear hb
    go_wp2_with fail
    refine hK.out _ _ ⟨b3.cell 0 _ rfl, b3.cell 1 _ rfl, b3.cell 2 _ rfl, b3.cell 3 _ rfl, b3.cell 4 _ rfl, b3.cell 5 _ rfl, b4.cell 0 _ rfl, b4.cell 1 _ rfl, b4.cell 2 _ rfl, b4.cell 3 _ rfl, b4.cell 4 _ rfl, b4.cell 5 _ rfl⟩ (fun hHeld => ?_)
    clear hK K
    (try simp only [List.getElem_toArray, List.getElem_cons_succ, List.getElem_cons_zero, Act.put, List.setIfInBounds_toArray, List.set_cons_zero, List.set_cons_succ])
    refine wpAnyH_ready (rs := [6]) (by kernel_rfl) (by simp) (AllReadyH.cons (o := _) rfl (fun K hK => ?_) AllReadyH.nil)
    go_simp
    go_at_call 9
    refine (same4_t g1 g2 g3 g4 (by omega) rfl rfl).mono ?_
    rintro e w8 ⟨rfl, hb⟩
    replace f0 := f0.below hb
    replace f1 := f1.below hb
    replace g1 := g1.below hb
    replace g2 := g2.below hb
    replace g3 := g3.below hb
    replace g4 := g4.below hb
    replace b4 := b4.below hb
    replace b3 := b3.below hb
    replace H0 := H0.trans (hb.mono H0.size)
    clear hb
    clear g1
    clear g2
    clear g3
    clear g4
    go_wp2_with fail
    refine hK.out _ _ ⟨b3.cell 0 _ rfl, b3.cell 1 _ rfl, b3.cell 2 _ rfl, b3.cell 3 _ rfl, b3.cell 4 _ rfl, b3.cell 5 _ rfl, b4.cell 0 _ rfl, b4.cell 1 _ rfl, b4.cell 2 _ rfl, b4.cell 3 _ rfl, b4.cell 4 _ rfl, b4.cell 5 _ rfl⟩ (fun hHeld => ?_)
    clear hK K
    (try simp only [List.getElem_toArray, List.getElem_cons_succ, List.getElem_cons_zero, Act.put, List.setIfInBounds_toArray, List.set_cons_zero, List.set_cons_succ])
    refine wpAnyH_take (i := 7) (v := ?_) rfl (by kernel_rfl) (by kernel_rfl) (by kernel_rfl) (fun _ _ _ h => h) (Or.inl ⟨by rfl, ?_⟩) (by assumption) ?_
    rotate_left
    · (intro w hSw; (try dsimp only at hSw); go_simp; (try with_reducible rfl))
    (try simp only [List.getElem_toArray, List.getElem_cons_succ, List.getElem_cons_zero, Act.put, List.setIfInBounds_toArray, List.set_cons_zero, List.set_cons_succ])
    refine wpAnyH_take (i := 8) (v := ?_) rfl (by kernel_rfl) (by kernel_rfl) (by kernel_rfl) (fun _ _ _ h => h) (Or.inl ⟨by rfl, ?_⟩) (by assumption) ?_
    rotate_left
    · (intro w hSw; (try dsimp only at hSw); go_simp; (try with_reducible rfl))
    (try simp only [List.getElem_toArray, List.getElem_cons_succ, List.getElem_cons_zero, Act.put, List.setIfInBounds_toArray, List.set_cons_zero, List.set_cons_succ])
    refine wpAnyH_take (i := 9) (v := ?_) rfl (by kernel_rfl) (by kernel_rfl) (by kernel_rfl) (fun _ _ _ h => h) (Or.inl ⟨by rfl, ?_⟩) (by assumption) ?_
    rotate_left
    · (intro w hSw; (try dsimp only at hSw); go_simp; (try with_reducible rfl))
    (try simp only [List.getElem_toArray, List.getElem_cons_succ, List.getElem_cons_zero, Act.put, List.setIfInBounds_toArray, List.set_cons_zero, List.set_cons_succ])
    refine wpAnyH_take (i := 10) (v := ?_) rfl (by kernel_rfl) (by kernel_rfl) (by kernel_rfl) (fun _ _ _ h => h) (Or.inl ⟨by rfl, ?_⟩) (by assumption) ?_
    rotate_left
    · (intro w hSw; (try dsimp only at hSw); go_simp; (try with_reducible rfl))
    (try simp only [List.getElem_toArray, List.getElem_cons_succ, List.getElem_cons_zero, Act.put, List.setIfInBounds_toArray, List.set_cons_zero, List.set_cons_succ])
    refine wpAnyH_take (i := 12) (v := ?_) rfl (by kernel_rfl) (by kernel_rfl) (by kernel_rfl) (fun _ _ _ h => h) (Or.inl ⟨by rfl, ?_⟩) (by assumption) ?_
    rotate_left
    · (intro w hSw; (try dsimp only at hSw); go_simp; (try with_reducible rfl))
    (try simp only [List.getElem_toArray, List.getElem_cons_succ, List.getElem_cons_zero, Act.put, List.setIfInBounds_toArray, List.set_cons_zero, List.set_cons_succ])
    refine wpAnyH_ready (rs := [11]) (by kernel_rfl) (by simp) (AllReadyH.cons (o := _) rfl (fun K hK => ?_) AllReadyH.nil)
    go_simp
    go_at_call 8
    refine (HF.out _ H0 _ _ _ _ _ _ _ _ _ _ _ _ _ _ f0 f1).mono ?_
    rintro e w9 ⟨rfl, hb⟩
    replace f0 := f0.below hb
    replace f1 := f1.below hb
    replace b4 := b4.below hb
    replace b3 := b3.below hb
    replace H0 := H0.trans (hb.mono H0.size)
    clear hb
    go_wp2_with fail
    refine hK.out _ _ ⟨b3.cell 0 _ rfl, b3.cell 1 _ rfl, b3.cell 2 _ rfl, b3.cell 3 _ rfl, b3.cell 4 _ rfl, b3.cell 5 _ rfl, b4.cell 0 _ rfl, b4.cell 1 _ rfl, b4.cell 2 _ rfl, b4.cell 3 _ rfl, b4.cell 4 _ rfl, b4.cell 5 _ rfl⟩ (fun hHeld => ?_)
    clear hK K
    (try simp only [List.getElem_toArray, List.getElem_cons_succ, List.getElem_cons_zero, Act.put, List.setIfInBounds_toArray, List.set_cons_zero, List.set_cons_succ])
    refine wpAnyH_ready (rs := [13]) (by kernel_rfl) (by simp) (AllReadyH.cons (o := _) rfl (fun K hK => ?_) AllReadyH.nil)
    go_simp
    go_at_call 10
    refine (gpt_v f0 f1 (by omega)).mono ?_
    rintro e w10 ⟨s2, A2, n2, c2, D2, m2, e2, s3, A3, n3, c3, D3, m3, e3, rfl, g3, g4, hb⟩
    replace f0 := f0.below hb
    replace f1 := f1.below hb
    replace b4 := b4.below hb
    replace b3 := b3.below hb
    replace H0 := H0.trans (hb.mono H0.size)
    clear hb
    clear f0
    clear f1
    go_wp2_with fail
    refine hK.out _ _ ⟨b3.cell 0 _ rfl, b3.cell 1 _ rfl, b3.cell 2 _ rfl, b3.cell 3 _ rfl, b3.cell 4 _ rfl, b3.cell 5 _ rfl, b4.cell 0 _ rfl, b4.cell 1 _ rfl, b4.cell 2 _ rfl, b4.cell 3 _ rfl, b4.cell 4 _ rfl, b4.cell 5 _ rfl⟩ (fun hHeld => ?_)
    clear hK K
    (try simp only [List.getElem_toArray, List.getElem_cons_succ, List.getElem_cons_zero, Act.put, List.setIfInBounds_toArray, List.set_cons_zero, List.set_cons_succ])
    refine wpAnyH_ready (rs := [14]) (by kernel_rfl) (by simp) (AllReadyH.cons (o := _) rfl (fun K hK => ?_) AllReadyH.nil)
    go_simp
    go_at_call 11
    refine (HN.out _ _ _ _ _ _ _ _ _ _ _ _ _ _ _ g3 g4).mono ?_
    rintro e w11 ⟨rfl, hb⟩
    replace g3 := g3.below hb
    replace g4 := g4.below hb
    replace b4 := b4.below hb
    replace b3 := b3.below hb
    replace H0 := H0.trans (hb.mono H0.size)
    clear hb
    clear g3
    clear g4
    go_wp2_with fail
    refine hK.out _ _ ⟨b3.cell 0 _ rfl, b3.cell 1 _ rfl, b3.cell 2 _ rfl, b3.cell 3 _ rfl, b3.cell 4 _ rfl, b3.cell 5 _ rfl, b4.cell 0 _ rfl, b4.cell 1 _ rfl, b4.cell 2 _ rfl, b4.cell 3 _ rfl, b4.cell 4 _ rfl, b4.cell 5 _ rfl⟩ (fun hHeld => ?_)
    clear hK K
    (try simp only [List.getElem_toArray, List.getElem_cons_succ, List.getElem_cons_zero, Act.put, List.setIfInBounds_toArray, List.set_cons_zero, List.set_cons_succ])
    refine wpAnyH_take (i := 15) (v := ?_) rfl (by kernel_rfl) (by kernel_rfl) (by kernel_rfl) (fun _ _ _ h => h) (Or.inl ⟨by rfl, ?_⟩) (by assumption) ?_
    rotate_left
    · (intro w hSw; (try dsimp only at hSw); go_simp; (try with_reducible rfl))
    (try simp only [List.getElem_toArray, List.getElem_cons_succ, List.getElem_cons_zero, Act.put, List.setIfInBounds_toArray, List.set_cons_zero, List.set_cons_succ])
    refine wpAnyH_take (i := 16) (v := ?_) rfl (by kernel_rfl) (by kernel_rfl) (by kernel_rfl) (fun _ _ _ h => h) (Or.inl ⟨by rfl, ?_⟩) (by assumption) ?_
    rotate_left
    · (intro w hSw; (try dsimp only at hSw); go_simp; (try with_reducible rfl))
    (try simp only [List.getElem_toArray, List.getElem_cons_succ, List.getElem_cons_zero, Act.put, List.setIfInBounds_toArray, List.set_cons_zero, List.set_cons_succ])
    refine wpAnyH_done (by kernel_rfl) ?_ _
    refine NoPanic.normal ?_
    clear HB HF HN
    clear b3
    clear b4
    go_wp2_with fail
    refine (HP.out _ H0).mono ?_
    rintro e w12 ⟨s10, A10, n10, c10, D10, m10, e10, s11, A11, n11, c11, D11, m11, e11, ff, rfl, pr, hb⟩
    replace H0 := H0.trans (hb.mono H0.size)
    clear hb
    obtain ⟨W13, hW, b8, hbW, hszW13⟩ := boxes1 w12 #[.bool s10, .slice A10 n10 c10, .slice D10 m10 e10, .bool s11, .slice A11 n11 c11, .slice D11 m11 e11] 31
    skip
    skip
    replace pr := pr.below hbW
    replace H0 := H0.trans (hbW.mono H0.size)
    clear hbW
    go_wp2_with fail
    clear hW HP
    go_loop [10, 11] (fun c i => ∃ k : Nat, i = .int .i64 (k : Int) ∧ c = .int .i64 (commaTo bs k) ∧ k ≤ bs.length) (fun _ i => bs.length - (intOf i).toNat)
    case atStart => exact ⟨0, rfl, rfl, Nat.zero_le _⟩
    case round =>
      obtain ⟨k, rfl, rfl, hk⟩ := hrel
      rcases Nat.lt_or_ge k bs.length with hlt | hge
      · clear pr HFF HRX HRY
        have hlt2 : decide ((k : Int) < (bs.length : Int)) = true := decide_eq_true (by omega)
        have hlt3 : (k : Int) < (bs.length : Int) := by omega
        have hw : IntKind.i64.wrap ((k : Int) + 1) = ((k + 1 : Nat) : Int) := by simp [IntKind.wrap, IntKind.bits, IntKind.signed]; omega
        obtain ⟨d, hdd⟩ : ∃ d, bs.getD k 0 = d := ⟨_, rfl⟩
        have hix : ∀ h : k < s.size, (s[k]'h).toNat = d := fun h => by rw [HAT.out k h]; exact hdd
        rcases Decidable.em (d = 44) with h44 | h44
        · subst h44
          rcases Decidable.em (commaTo bs k < 0) with hc | hc
          · have hc' : decide (commaTo bs k < 0) = true := decide_eq_true hc
            have HST := Lib.hid (comma_hit hdd hc)
            clear hdd hc
            go_wp2_with fail
            go_round
            case rel => exact ⟨k + 1, rfl, by rw [HST.out], by omega⟩
            case measure => simp [intOf] <;> omega
          · have hc' : decide (commaTo bs k < 0) = false := decide_eq_false hc
            have HST := Lib.hid (comma_keep (bs := bs) (k := k) (fun h => hc h.2))
            clear hdd hc
            go_wp2_with fail
            go_round
            case rel => exact ⟨k + 1, rfl, by rw [HST.out], by omega⟩
            case measure => simp [intOf] <;> omega
        · have hne : ((d : Int) == 44) = false := by rw [beq_eq_false_iff_ne]; omega
          have HST := Lib.hid (comma_keep (bs := bs) (k := k) (fun h => h44 (hdd.symm.trans h.1)))
          clear hdd h44
          go_wp2_with fail
          go_round
          case rel => exact ⟨k + 1, rfl, by rw [HST.out], by omega⟩
          case measure => simp [intOf] <;> omega
      · obtain rfl : k = bs.length := by omega
        have hlt2 : decide ((bs.length : Int) < (bs.length : Int)) = false := decide_eq_false (by omega)
        clear hge hk
        rcases pr with ⟨ho, hE⟩ | ⟨ho, hn, hE, g10, g11⟩ | ⟨ho, hx, hy, hz, hE, g10, g11⟩ | ⟨ho, hx, hy, zx, zy, rfl, g10, g11⟩
        · clear HFF HRX HRY hhx hhy
          have HFO := form_not ho
          rcases Nat.lt_or_ge bs.length 3 with h3 | h3
          · have i3 : decide ((bs.length : Int) < 3) = true := decide_eq_true (by omega)
            clear h3 HFO
            go_wp2_with fail
            refine (HK.out _ H0).mono ?_
            rintro e w14 ⟨rfl, hb⟩
            replace b8 := b8.below hb
            replace H0 := H0.trans (hb.mono H0.size)
            clear hb
            have cS := (H0.cell (p := ⟨0, 0, none⟩) blkS).trans HS.out
            go_wp2_with fail
            clear cS
            refine (hE _).mono ?_
            rintro e w15 ⟨rfl, hb⟩
            replace b8 := b8.below hb
            replace H0 := H0.trans (hb.mono H0.size)
            clear hb
            go_wp2_with fail
            go_returns
            exact ⟨rfl, H0⟩
          · rcases Decidable.em (bs.getD 0 0 = 40) with h3' | h3'
            · rcases Decidable.em (bs.getD (bs.length - 1) 0 = 41) with h4 | h4
              · have i3 : decide ((bs.length : Int) < 3) = false := decide_eq_false (by omega)
                have j0 : ∀ h : 0 < s.size, (s[0]'h).toNat = bs.getD 0 0 := fun h => HAT.out 0 h
                have j1 : (0 : Int) < (bs.length : Int) := by omega
                have j1' : 0 < bs.length := by omega
                rw [h3'] at j0
                have jm : ∀ h : bs.length - 1 < s.size, (s[bs.length - 1]'h).toNat = bs.getD (bs.length - 1) 0 := fun h => HAT.out _ h
                rw [h4] at jm
                rw [HFO h3' h4]
                clear h4
                have jw : IntKind.i64.wrap ((bs.length : Int) - 1) = ((bs.length - 1 : Nat) : Int) := by simp [IntKind.wrap, IntKind.bits, IntKind.signed]; omega
                have jl : ((bs.length - 1 : Nat) : Int) < (bs.length : Int) := by omega
                have jl' : bs.length - 1 < bs.length := by omega
                generalize bs.length - 1 = m at jm jw jl jl'
                clear h3 h3' HFO
                go_wp2_with fail
                refine (HK.out _ H0).mono ?_
                rintro e w14 ⟨rfl, hb⟩
                replace b8 := b8.below hb
                replace H0 := H0.trans (hb.mono H0.size)
                clear hb
                have cS := (H0.cell (p := ⟨0, 0, none⟩) blkS).trans HS.out
                go_wp2_with fail
                clear cS
                refine (hE _).mono ?_
                rintro e w15 ⟨rfl, hb⟩
                replace b8 := b8.below hb
                replace H0 := H0.trans (hb.mono H0.size)
                clear hb
                go_wp2_with fail
                go_returns
                exact ⟨rfl, H0⟩
              · have i3 : decide ((bs.length : Int) < 3) = false := decide_eq_false (by omega)
                have j0 : ∀ h : 0 < s.size, (s[0]'h).toNat = bs.getD 0 0 := fun h => HAT.out 0 h
                have j1 : (0 : Int) < (bs.length : Int) := by omega
                have j1' : 0 < bs.length := by omega
                rw [h3'] at j0
                have jm : ∀ h : bs.length - 1 < s.size, (s[bs.length - 1]'h).toNat = bs.getD (bs.length - 1) 0 := fun h => HAT.out _ h
                have j3 : (((bs.getD (bs.length - 1) 0 : Nat) : Int) != 41) = true := by rw [bne_iff_ne]; omega
                generalize bs.getD (bs.length - 1) 0 = d1 at jm j3
                have jw : IntKind.i64.wrap ((bs.length : Int) - 1) = ((bs.length - 1 : Nat) : Int) := by simp [IntKind.wrap, IntKind.bits, IntKind.signed]; omega
                have jl : ((bs.length - 1 : Nat) : Int) < (bs.length : Int) := by omega
                have jl' : bs.length - 1 < bs.length := by omega
                generalize bs.length - 1 = m at jm jw jl jl'
                clear h4
                clear h3 h3' HFO
                go_wp2_with fail
                refine (HK.out _ H0).mono ?_
                rintro e w14 ⟨rfl, hb⟩
                replace b8 := b8.below hb
                replace H0 := H0.trans (hb.mono H0.size)
                clear hb
                have cS := (H0.cell (p := ⟨0, 0, none⟩) blkS).trans HS.out
                go_wp2_with fail
                clear cS
                refine (hE _).mono ?_
                rintro e w15 ⟨rfl, hb⟩
                replace b8 := b8.below hb
                replace H0 := H0.trans (hb.mono H0.size)
                clear hb
                go_wp2_with fail
                go_returns
                exact ⟨rfl, H0⟩
            · have i3 : decide ((bs.length : Int) < 3) = false := decide_eq_false (by omega)
              have j0 : ∀ h : 0 < s.size, (s[0]'h).toNat = bs.getD 0 0 := fun h => HAT.out 0 h
              have j1 : (0 : Int) < (bs.length : Int) := by omega
              have j1' : 0 < bs.length := by omega
              have j2 : (((bs.getD 0 0 : Nat) : Int) != 40) = true := by rw [bne_iff_ne]; omega
              generalize bs.getD 0 0 = d0 at j0 j2
              clear h3 h3' HFO
              go_wp2_with fail
              refine (HK.out _ H0).mono ?_
              rintro e w14 ⟨rfl, hb⟩
              replace b8 := b8.below hb
              replace H0 := H0.trans (hb.mono H0.size)
              clear hb
              have cS := (H0.cell (p := ⟨0, 0, none⟩) blkS).trans HS.out
              go_wp2_with fail
              clear cS
              refine (hE _).mono ?_
              rintro e w15 ⟨rfl, hb⟩
              replace b8 := b8.below hb
              replace H0 := H0.trans (hb.mono H0.size)
              clear hb
              go_wp2_with fail
              go_returns
              exact ⟨rfl, H0⟩
        · obtain ⟨e1, e2, e3, e4, e5, e6⟩ := HFF.out ho
          rw [e4]
          clear HFF
          have j0 : ∀ h : 0 < s.size, (s[0]'h).toNat = 40 := fun h => by rw [HAT.out 0 h]; exact e2
          have jm : ∀ h : bs.length - 1 < s.size, (s[bs.length - 1]'h).toNat = 41 := fun h => by rw [HAT.out _ h]; exact e3
          clear e2 e3 e4
          have i3 : decide ((bs.length : Int) < 3) = false := decide_eq_false (by omega)
          have j1 : (0 : Int) < (bs.length : Int) := by omega
          have j1' : 0 < bs.length := by omega
          have jw : IntKind.i64.wrap ((bs.length : Int) - 1) = ((bs.length - 1 : Nat) : Int) := by simp [IntKind.wrap, IntKind.bits, IntKind.signed]; omega
          have jl : ((bs.length - 1 : Nat) : Int) < (bs.length : Int) := by omega
          have jl' : bs.length - 1 < bs.length := by omega
          rw [show ((coordX bs).length : Int) + 1 = (((coordX bs).length + 1 : Nat) : Int) by omega]
          have k1 : decide ((((coordX bs).length + 1 : Nat) : Int) < 1) = false := decide_eq_false (by omega)
          have k2 : (0 : Int) ≤ (((coordX bs).length + 1 : Nat) : Int) := by omega
          have k3 : (1 : Int) ≤ (((coordX bs).length + 1 : Nat) : Int) := by omega
          have k4 : (((coordX bs).length + 1 : Nat) : Int) ≤ (bs.length : Int) := by omega
          have k5 : IntKind.i64.wrap ((((coordX bs).length + 1 : Nat) : Int) + 1) = (((coordX bs).length + 2 : Nat) : Int) := by simp [IntKind.wrap, IntKind.bits, IntKind.signed]; omega
          have k6 : (((coordX bs).length + 2 : Nat) : Int) ≤ ((bs.length - 1 : Nat) : Int) := by omega
          have k7 : ((bs.length - 1 : Nat) : Int) ≤ (bs.length : Int) := by omega
          have k8 : (0 : Int) ≤ (((coordX bs).length + 2 : Nat) : Int) := by omega
          generalize bs.length - 1 = m at *
          generalize (coordX bs).length + 1 = u1 at *
          generalize (coordX bs).length + 2 = u2 at *
          clear e1 hhx hhy
          go_wp2_with fail
          refine (HRX.out _ H0).mono ?_
          rintro e w14 ⟨s4, A4, n4, c4, D4, m4, e4, kx, rfl, rx, hb⟩
          replace g10 := g10.below hb
          replace g11 := g11.below hb
          replace b8 := b8.below hb
          replace H0 := H0.trans (hb.mono H0.size)
          clear hb
          have lb8_15 := b8.lt
          obtain ⟨W15, hW, b6, hbW, hszW15⟩ := boxes1 w14 #[.bool s4, .slice A4 n4 c4, .slice D4 m4 e4] 45
          skip
          skip
          replace g10 := g10.below hbW
          replace g11 := g11.below hbW
          replace rx := rx.below hbW
          replace b8 := b8.below hbW
          replace H0 := H0.trans (hbW.mono H0.size)
          clear hbW
          go_wp2_with fail
          clear hW
          refine (HRY.out _ H0).mono ?_
          rintro e w16 ⟨s5, A5, n5, c5, D5, m5, e5, ky, rfl, ry, hb⟩
          replace g10 := g10.below hb
          replace g11 := g11.below hb
          replace rx := rx.below hb
          replace b8 := b8.below hb
          replace b6 := b6.below hb
          replace H0 := H0.trans (hb.mono H0.size)
          clear hb
          have lb8_17 := b8.lt
          have lb6_17 := b6.lt
          obtain ⟨W17, hW, b7, hbW, hszW17⟩ := boxes1 w16 #[.bool s5, .slice A5 n5 c5, .slice D5 m5 e5] 45
          skip
          skip
          replace g10 := g10.below hbW
          replace g11 := g11.below hbW
          replace rx := rx.below hbW
          replace ry := ry.below hbW
          replace b8 := b8.below hbW
          replace b6 := b6.below hbW
          replace H0 := H0.trans (hbW.mono H0.size)
          clear hbW
          have zW := hW
          clear hW
          rcases Classical.em (okN (coordX bs)) with hx | hx
          · replace hn : ¬ okN (coordY bs) := hn.resolve_left (fun h => h hx)
            have hkx := rx.ne1 hx
            obtain rfl := ry.1 hn
            clear rx ry
            go_wp2_with fail
            clear zW
            refine (HK.out _ H0).mono ?_
            rintro e w18 ⟨rfl, hb⟩
            replace g10 := g10.below hb
            replace g11 := g11.below hb
            replace b8 := b8.below hb
            replace b6 := b6.below hb
            replace b7 := b7.below hb
            replace H0 := H0.trans (hb.mono H0.size)
            clear hb
            have cS := (H0.cell (p := ⟨0, 0, none⟩) blkS).trans HS.out
            have cb80 := b8.cell 0 _ rfl
            have cb81 := b8.cell 1 _ rfl
            have cb82 := b8.cell 2 _ rfl
            have cb83 := b8.cell 3 _ rfl
            have cb84 := b8.cell 4 _ rfl
            have cb85 := b8.cell 5 _ rfl
            go_wp2_with fail
            clear cS cb80 cb81 cb82 cb83 cb84 cb85
            refine (hE _).mono ?_
            rintro e w19 ⟨rfl, hb⟩
            replace g10 := g10.below hb
            replace g11 := g11.below hb
            replace b8 := b8.below hb
            replace b6 := b6.below hb
            replace b7 := b7.below hb
            replace H0 := H0.trans (hb.mono H0.size)
            clear hb
            have cb80 := b8.cell 0 _ rfl
            have cb81 := b8.cell 1 _ rfl
            have cb82 := b8.cell 2 _ rfl
            have cb83 := b8.cell 3 _ rfl
            have cb84 := b8.cell 4 _ rfl
            have cb85 := b8.cell 5 _ rfl
            go_wp2_with fail
            clear cb80 cb81 cb82 cb83 cb84 cb85
            refine (samep_z g10 g11).mono ?_
            rintro e w20 ⟨rfl, hb⟩
            replace g10 := g10.below hb
            replace g11 := g11.below hb
            replace b8 := b8.below hb
            replace b6 := b6.below hb
            replace b7 := b7.below hb
            replace H0 := H0.trans (hb.mono H0.size)
            clear hb
            go_wp2_with fail
            go_returns
            exact ⟨rfl, H0⟩
          · have hn := hx
            obtain rfl := rx.1 hn
            clear rx ry
            go_wp2_with fail
            clear zW
            refine (HK.out _ H0).mono ?_
            rintro e w18 ⟨rfl, hb⟩
            replace g10 := g10.below hb
            replace g11 := g11.below hb
            replace b8 := b8.below hb
            replace b6 := b6.below hb
            replace b7 := b7.below hb
            replace H0 := H0.trans (hb.mono H0.size)
            clear hb
            have cS := (H0.cell (p := ⟨0, 0, none⟩) blkS).trans HS.out
            have cb80 := b8.cell 0 _ rfl
            have cb81 := b8.cell 1 _ rfl
            have cb82 := b8.cell 2 _ rfl
            have cb83 := b8.cell 3 _ rfl
            have cb84 := b8.cell 4 _ rfl
            have cb85 := b8.cell 5 _ rfl
            go_wp2_with fail
            clear cS cb80 cb81 cb82 cb83 cb84 cb85
            refine (hE _).mono ?_
            rintro e w19 ⟨rfl, hb⟩
            replace g10 := g10.below hb
            replace g11 := g11.below hb
            replace b8 := b8.below hb
            replace b6 := b6.below hb
            replace b7 := b7.below hb
            replace H0 := H0.trans (hb.mono H0.size)
            clear hb
            have cb80 := b8.cell 0 _ rfl
            have cb81 := b8.cell 1 _ rfl
            have cb82 := b8.cell 2 _ rfl
            have cb83 := b8.cell 3 _ rfl
            have cb84 := b8.cell 4 _ rfl
            have cb85 := b8.cell 5 _ rfl
            go_wp2_with fail
            clear cb80 cb81 cb82 cb83 cb84 cb85
            refine (samep_z g10 g11).mono ?_
            rintro e w20 ⟨rfl, hb⟩
            replace g10 := g10.below hb
            replace g11 := g11.below hb
            replace b8 := b8.below hb
            replace b6 := b6.below hb
            replace b7 := b7.below hb
            replace H0 := H0.trans (hb.mono H0.size)
            clear hb
            go_wp2_with fail
            go_returns
            exact ⟨rfl, H0⟩
        · obtain ⟨e1, e2, e3, e4, e5, e6⟩ := HFF.out ho
          rw [e4]
          clear HFF
          have j0 : ∀ h : 0 < s.size, (s[0]'h).toNat = 40 := fun h => by rw [HAT.out 0 h]; exact e2
          have jm : ∀ h : bs.length - 1 < s.size, (s[bs.length - 1]'h).toNat = 41 := fun h => by rw [HAT.out _ h]; exact e3
          clear e2 e3 e4
          have i3 : decide ((bs.length : Int) < 3) = false := decide_eq_false (by omega)
          have j1 : (0 : Int) < (bs.length : Int) := by omega
          have j1' : 0 < bs.length := by omega
          have jw : IntKind.i64.wrap ((bs.length : Int) - 1) = ((bs.length - 1 : Nat) : Int) := by simp [IntKind.wrap, IntKind.bits, IntKind.signed]; omega
          have jl : ((bs.length - 1 : Nat) : Int) < (bs.length : Int) := by omega
          have jl' : bs.length - 1 < bs.length := by omega
          rw [show ((coordX bs).length : Int) + 1 = (((coordX bs).length + 1 : Nat) : Int) by omega]
          have k1 : decide ((((coordX bs).length + 1 : Nat) : Int) < 1) = false := decide_eq_false (by omega)
          have k2 : (0 : Int) ≤ (((coordX bs).length + 1 : Nat) : Int) := by omega
          have k3 : (1 : Int) ≤ (((coordX bs).length + 1 : Nat) : Int) := by omega
          have k4 : (((coordX bs).length + 1 : Nat) : Int) ≤ (bs.length : Int) := by omega
          have k5 : IntKind.i64.wrap ((((coordX bs).length + 1 : Nat) : Int) + 1) = (((coordX bs).length + 2 : Nat) : Int) := by simp [IntKind.wrap, IntKind.bits, IntKind.signed]; omega
          have k6 : (((coordX bs).length + 2 : Nat) : Int) ≤ ((bs.length - 1 : Nat) : Int) := by omega
          have k7 : ((bs.length - 1 : Nat) : Int) ≤ (bs.length : Int) := by omega
          have k8 : (0 : Int) ≤ (((coordX bs).length + 2 : Nat) : Int) := by omega
          generalize bs.length - 1 = m at *
          generalize (coordX bs).length + 1 = u1 at *
          generalize (coordX bs).length + 2 = u2 at *
          clear e1 hhx hhy
          go_wp2_with fail
          refine (HRX.out _ H0).mono ?_
          rintro e w14 ⟨s4, A4, n4, c4, D4, m4, e4, kx, rfl, rx, hb⟩
          replace g10 := g10.below hb
          replace g11 := g11.below hb
          replace b8 := b8.below hb
          replace H0 := H0.trans (hb.mono H0.size)
          clear hb
          have lb8_15 := b8.lt
          obtain ⟨W15, hW, b6, hbW, hszW15⟩ := boxes1 w14 #[.bool s4, .slice A4 n4 c4, .slice D4 m4 e4] 45
          skip
          skip
          replace g10 := g10.below hbW
          replace g11 := g11.below hbW
          replace rx := rx.below hbW
          replace b8 := b8.below hbW
          replace H0 := H0.trans (hbW.mono H0.size)
          clear hbW
          go_wp2_with fail
          clear hW
          refine (HRY.out _ H0).mono ?_
          rintro e w16 ⟨s5, A5, n5, c5, D5, m5, e5, ky, rfl, ry, hb⟩
          replace g10 := g10.below hb
          replace g11 := g11.below hb
          replace rx := rx.below hb
          replace b8 := b8.below hb
          replace b6 := b6.below hb
          replace H0 := H0.trans (hb.mono H0.size)
          clear hb
          have lb8_17 := b8.lt
          have lb6_17 := b6.lt
          obtain ⟨W17, hW, b7, hbW, hszW17⟩ := boxes1 w16 #[.bool s5, .slice A5 n5 c5, .slice D5 m5 e5] 45
          skip
          skip
          replace g10 := g10.below hbW
          replace g11 := g11.below hbW
          replace rx := rx.below hbW
          replace ry := ry.below hbW
          replace b8 := b8.below hbW
          replace b6 := b6.below hbW
          replace H0 := H0.trans (hbW.mono H0.size)
          clear hbW
          have zW := hW
          clear hW
          rcases Decidable.em (decN (denS (coordX bs)) = 0) with hzx | hzx
          · replace hz := hzx
            obtain rfl := rx.2.1 hx hz
            have hky := ry.ne1 hy
            clear rx ry
            go_wp2_with fail
            clear zW
            refine (HK.out _ H0).mono ?_
            rintro e w18 ⟨rfl, hb⟩
            replace g10 := g10.below hb
            replace g11 := g11.below hb
            replace b8 := b8.below hb
            replace b6 := b6.below hb
            replace b7 := b7.below hb
            replace H0 := H0.trans (hb.mono H0.size)
            clear hb
            have cR := (H0.cell (p := ⟨1, 0, none⟩) blkR).trans HRr.out
            have cb80 := b8.cell 0 _ rfl
            have cb81 := b8.cell 1 _ rfl
            have cb82 := b8.cell 2 _ rfl
            have cb83 := b8.cell 3 _ rfl
            have cb84 := b8.cell 4 _ rfl
            have cb85 := b8.cell 5 _ rfl
            go_wp2_with fail
            clear cR cb80 cb81 cb82 cb83 cb84 cb85
            refine (hE _).mono ?_
            rintro e w19 ⟨rfl, hb⟩
            replace g10 := g10.below hb
            replace g11 := g11.below hb
            replace b8 := b8.below hb
            replace b6 := b6.below hb
            replace b7 := b7.below hb
            replace H0 := H0.trans (hb.mono H0.size)
            clear hb
            have cb80 := b8.cell 0 _ rfl
            have cb81 := b8.cell 1 _ rfl
            have cb82 := b8.cell 2 _ rfl
            have cb83 := b8.cell 3 _ rfl
            have cb84 := b8.cell 4 _ rfl
            have cb85 := b8.cell 5 _ rfl
            go_wp2_with fail
            clear cb80 cb81 cb82 cb83 cb84 cb85
            refine (samep_z g10 g11).mono ?_
            rintro e w20 ⟨rfl, hb⟩
            replace g10 := g10.below hb
            replace g11 := g11.below hb
            replace b8 := b8.below hb
            replace b6 := b6.below hb
            replace b7 := b7.below hb
            replace H0 := H0.trans (hb.mono H0.size)
            clear hb
            go_wp2_with fail
            go_returns
            exact ⟨rfl, H0⟩
          · replace hz := hz.resolve_left hzx
            obtain ⟨rfl, _⟩ := rx.2.2 hx hzx
            obtain rfl := ry.2.1 hy hz
            clear rx ry
            go_wp2_with fail
            clear zW
            refine (HK.out _ H0).mono ?_
            rintro e w18 ⟨rfl, hb⟩
            replace g10 := g10.below hb
            replace g11 := g11.below hb
            replace b8 := b8.below hb
            replace b6 := b6.below hb
            replace b7 := b7.below hb
            replace H0 := H0.trans (hb.mono H0.size)
            clear hb
            have cR := (H0.cell (p := ⟨1, 0, none⟩) blkR).trans HRr.out
            have cb80 := b8.cell 0 _ rfl
            have cb81 := b8.cell 1 _ rfl
            have cb82 := b8.cell 2 _ rfl
            have cb83 := b8.cell 3 _ rfl
            have cb84 := b8.cell 4 _ rfl
            have cb85 := b8.cell 5 _ rfl
            go_wp2_with fail
            clear cR cb80 cb81 cb82 cb83 cb84 cb85
            refine (hE _).mono ?_
            rintro e w19 ⟨rfl, hb⟩
            replace g10 := g10.below hb
            replace g11 := g11.below hb
            replace b8 := b8.below hb
            replace b6 := b6.below hb
            replace b7 := b7.below hb
            replace H0 := H0.trans (hb.mono H0.size)
            clear hb
            have cb80 := b8.cell 0 _ rfl
            have cb81 := b8.cell 1 _ rfl
            have cb82 := b8.cell 2 _ rfl
            have cb83 := b8.cell 3 _ rfl
            have cb84 := b8.cell 4 _ rfl
            have cb85 := b8.cell 5 _ rfl
            go_wp2_with fail
            clear cb80 cb81 cb82 cb83 cb84 cb85
            refine (samep_z g10 g11).mono ?_
            rintro e w20 ⟨rfl, hb⟩
            replace g10 := g10.below hb
            replace g11 := g11.below hb
            replace b8 := b8.below hb
            replace b6 := b6.below hb
            replace b7 := b7.below hb
            replace H0 := H0.trans (hb.mono H0.size)
            clear hb
            go_wp2_with fail
            go_returns
            exact ⟨rfl, H0⟩
        · obtain ⟨e1, e2, e3, e4, e5, e6⟩ := HFF.out ho
          rw [e4]
          clear HFF
          have j0 : ∀ h : 0 < s.size, (s[0]'h).toNat = 40 := fun h => by rw [HAT.out 0 h]; exact e2
          have jm : ∀ h : bs.length - 1 < s.size, (s[bs.length - 1]'h).toNat = 41 := fun h => by rw [HAT.out _ h]; exact e3
          clear e2 e3 e4
          have i3 : decide ((bs.length : Int) < 3) = false := decide_eq_false (by omega)
          have j1 : (0 : Int) < (bs.length : Int) := by omega
          have j1' : 0 < bs.length := by omega
          have jw : IntKind.i64.wrap ((bs.length : Int) - 1) = ((bs.length - 1 : Nat) : Int) := by simp [IntKind.wrap, IntKind.bits, IntKind.signed]; omega
          have jl : ((bs.length - 1 : Nat) : Int) < (bs.length : Int) := by omega
          have jl' : bs.length - 1 < bs.length := by omega
          rw [show ((coordX bs).length : Int) + 1 = (((coordX bs).length + 1 : Nat) : Int) by omega]
          have k1 : decide ((((coordX bs).length + 1 : Nat) : Int) < 1) = false := decide_eq_false (by omega)
          have k2 : (0 : Int) ≤ (((coordX bs).length + 1 : Nat) : Int) := by omega
          have k3 : (1 : Int) ≤ (((coordX bs).length + 1 : Nat) : Int) := by omega
          have k4 : (((coordX bs).length + 1 : Nat) : Int) ≤ (bs.length : Int) := by omega
          have k5 : IntKind.i64.wrap ((((coordX bs).length + 1 : Nat) : Int) + 1) = (((coordX bs).length + 2 : Nat) : Int) := by simp [IntKind.wrap, IntKind.bits, IntKind.signed]; omega
          have k6 : (((coordX bs).length + 2 : Nat) : Int) ≤ ((bs.length - 1 : Nat) : Int) := by omega
          have k7 : ((bs.length - 1 : Nat) : Int) ≤ (bs.length : Int) := by omega
          have k8 : (0 : Int) ≤ (((coordX bs).length + 2 : Nat) : Int) := by omega
          generalize bs.length - 1 = m at *
          generalize (coordX bs).length + 1 = u1 at *
          generalize (coordX bs).length + 2 = u2 at *
          clear e1 hhx hhy
          go_wp2_with fail
          refine (HRX.out _ H0).mono ?_
          rintro e w14 ⟨s4, A4, n4, c4, D4, m4, e4, kx, rfl, rx, hb⟩
          replace g10 := g10.below hb
          replace g11 := g11.below hb
          replace b8 := b8.below hb
          replace H0 := H0.trans (hb.mono H0.size)
          clear hb
          have lb8_15 := b8.lt
          obtain ⟨W15, hW, b6, hbW, hszW15⟩ := boxes1 w14 #[.bool s4, .slice A4 n4 c4, .slice D4 m4 e4] 45
          skip
          skip
          replace g10 := g10.below hbW
          replace g11 := g11.below hbW
          replace rx := rx.below hbW
          replace b8 := b8.below hbW
          replace H0 := H0.trans (hbW.mono H0.size)
          clear hbW
          go_wp2_with fail
          clear hW
          refine (HRY.out _ H0).mono ?_
          rintro e w16 ⟨s5, A5, n5, c5, D5, m5, e5, ky, rfl, ry, hb⟩
          replace g10 := g10.below hb
          replace g11 := g11.below hb
          replace rx := rx.below hb
          replace b8 := b8.below hb
          replace b6 := b6.below hb
          replace H0 := H0.trans (hb.mono H0.size)
          clear hb
          have lb8_17 := b8.lt
          have lb6_17 := b6.lt
          obtain ⟨W17, hW, b7, hbW, hszW17⟩ := boxes1 w16 #[.bool s5, .slice A5 n5 c5, .slice D5 m5 e5] 45
          skip
          skip
          replace g10 := g10.below hbW
          replace g11 := g11.below hbW
          replace rx := rx.below hbW
          replace ry := ry.below hbW
          replace b8 := b8.below hbW
          replace b6 := b6.below hbW
          replace H0 := H0.trans (hbW.mono H0.size)
          clear hbW
          have zW := hW
          clear hW
          obtain ⟨rfl, g4⟩ := rx.2.2 hx zx
          obtain ⟨rfl, g5⟩ := ry.2.2 hy zy
          clear rx ry
          go_wp2_with fail
          clear zW
          refine (HK.out _ H0).mono ?_
          rintro e w18 ⟨rfl, hb⟩
          replace g10 := g10.below hb
          replace g11 := g11.below hb
          replace g4 := g4.below hb
          replace g5 := g5.below hb
          replace b8 := b8.below hb
          replace b6 := b6.below hb
          replace b7 := b7.below hb
          replace H0 := H0.trans (hb.mono H0.size)
          clear hb
          have cb60 := b6.cell 0 _ rfl
          have cb61 := b6.cell 1 _ rfl
          have cb62 := b6.cell 2 _ rfl
          have cb70 := b7.cell 0 _ rfl
          have cb71 := b7.cell 1 _ rfl
          have cb72 := b7.cell 2 _ rfl
          have cb80 := b8.cell 0 _ rfl
          have cb81 := b8.cell 1 _ rfl
          have cb82 := b8.cell 2 _ rfl
          have cb83 := b8.cell 3 _ rfl
          have cb84 := b8.cell 4 _ rfl
          have cb85 := b8.cell 5 _ rfl
          go_wp2_with fail
          clear cb60 cb61 cb62 cb70 cb71 cb72 cb80 cb81 cb82 cb83 cb84 cb85
          refine (same4_t g10 g11 g4 g5 (by omega) rfl rfl).mono ?_
          rintro e w19 ⟨rfl, hb⟩
          replace g10 := g10.below hb
          replace g11 := g11.below hb
          replace g4 := g4.below hb
          replace g5 := g5.below hb
          replace b8 := b8.below hb
          replace b6 := b6.below hb
          replace b7 := b7.below hb
          replace H0 := H0.trans (hb.mono H0.size)
          clear hb
          go_wp2_with fail
          go_returns
          exact ⟨rfl, H0⟩
end
end Go.Proofs.YtancgkmkbgkncaaGreatDoor
