/-
  PointTurns.
-/
import Derived.Test.YtlpgbflajcfgpaaGreatDoorPtR
import Derived.Test.YtlpgbflajcfgpaaGreatDoorPtK
import Derived.Deep.Cut
import Derived.Test.YtlpgbflajcfgpaaGreatDoorE1
import Derived.Test.YtlpgbflajcfgpaaGreatDoorE2
import Derived.Test.YtlpgbflajcfgpaaGreatDoorE3
import Derived.Test.YtlpgbflajcfgpaaGreatDoorE4
import Derived.Test.YtlpgbflajcfgpaaGreatDoorEY
namespace Go.Proofs.YtlpgbflajcfgpaaGreatDoor
open Go.RowKit

section
variable {A0 A1 A2 A3 A4 A5 A6 A7 D0 D1 D2 D3 D4 D5 D6 D7 : Option Addr} {n0 n1 n2 n3 n4 n5 n6 n7 c0 c1 c2 c3 c4 c5 c6 c7 m0 m1 m2 m3 m4 m5 m6 m7 e0 e1 e2 e3 e4 e5 e6 e7 : Nat} {s0 s1 s2 s3 s4 s5 s6 s7 : Bool} {w : World}
set_option maxRecDepth 100000 in
set_option maxHeartbeats 8000000 in
theorem pointturns_any {v : Value} (HI : Ints w v) (htab : Lib.TabIs Tryz.prog w "internal/strconv.uint64pow10" .u64 Lib.pow10Tab) :
    Calls Tryz.prog 7 #[v] w fun e w' => e = .returned (.bool true) ∧ Below w.heap.size w w' := by
  have HK := Lib.hid (fun (W : World) (h : Below w.heap.size w W) => known4_any (Go.Joins.tab_stays (show Tryz.prog.globalNamed "internal/strconv.uint64pow10" = some 5 by kernel_rfl) htab h (Nat.le_refl _)))
  clear htab
  go_enter Tryz.func7, Tryz.ntmps7
  go_wp2_with fail
  refine (new_any HI).mono ?_
  rintro e w1 ⟨rfl, hT, H0, hsz⟩
  have hlt : w.heap.size < w1.heap.size := by omega
  clear hsz HI
  go_wp2_with fail
  refine (tpoint_v hT hlt).mono ?_
  rintro e w2 ⟨q0, q1, s10, A10, n10, c10, D10, m10, e10, s11, A11, n11, c11, D11, m11, e11, rfl, p0, p1, hT', hg⟩
  replace hlt := Nat.lt_of_lt_of_le hlt hg.size
  replace H0 := H0.grown hg H0.size (by rintro k hk; injection hk with hk; omega)
  clear hT
  have hT := hT'
  clear hT' hg
  go_wp2_with fail
  refine (gtop_v p0 p1 (by omega)).mono ?_
  rintro e w3 ⟨s0, A0, n0, c0, D0, m0, e0, s1, A1, n1, c1, D1, m1, e1, rfl, f0, f1, hb⟩
  replace p0 := p0.below hb
  replace p1 := p1.below hb
  replace hT := hT.keep hb hlt
  replace hlt := Nat.lt_of_lt_of_le hlt hb.size
  replace H0 := H0.trans (hb.mono H0.size)
  clear hb
  clear p0
  clear p1
  go_wp2_with fail
  refine (tpoint_v hT hlt).mono ?_
  rintro e w4 ⟨q2, q3, s10, A10, n10, c10, D10, m10, e10, s11, A11, n11, c11, D11, m11, e11, rfl, p0, p1, hT', hg⟩
  replace f0 := f0.tape hT hg
  replace f1 := f1.tape hT hg
  replace hlt := Nat.lt_of_lt_of_le hlt hg.size
  replace H0 := H0.grown hg H0.size (by rintro k hk; injection hk with hk; omega)
  clear hT
  have hT := hT'
  clear hT' hg
  go_wp2_with fail
  refine (gtop_v p0 p1 (by omega)).mono ?_
  rintro e w5 ⟨s2, A2, n2, c2, D2, m2, e2, s3, A3, n3, c3, D3, m3, e3, rfl, f2, f3, hb⟩
  replace f0 := f0.below hb
  replace f1 := f1.below hb
  replace p0 := p0.below hb
  replace p1 := p1.below hb
  replace hT := hT.keep hb hlt
  replace hlt := Nat.lt_of_lt_of_le hlt hb.size
  replace H0 := H0.trans (hb.mono H0.size)
  clear hb
  clear p0
  clear p1
  go_wp2_with fail
  refine (tpoint_v hT hlt).mono ?_
  rintro e w6 ⟨q4, q5, s10, A10, n10, c10, D10, m10, e10, s11, A11, n11, c11, D11, m11, e11, rfl, p0, p1, hT', hg⟩
  replace f0 := f0.tape hT hg
  replace f1 := f1.tape hT hg
  replace f2 := f2.tape hT hg
  replace f3 := f3.tape hT hg
  replace hlt := Nat.lt_of_lt_of_le hlt hg.size
  replace H0 := H0.grown hg H0.size (by rintro k hk; injection hk with hk; omega)
  clear hT
  have hT := hT'
  clear hT' hg
  go_wp2_with fail
  refine (gtop_v p0 p1 (by omega)).mono ?_
  rintro e w7 ⟨s4, A4, n4, c4, D4, m4, e4, s5, A5, n5, c5, D5, m5, e5, rfl, f4, f5, hb⟩
  replace f0 := f0.below hb
  replace f1 := f1.below hb
  replace f2 := f2.below hb
  replace f3 := f3.below hb
  replace p0 := p0.below hb
  replace p1 := p1.below hb
  replace hT := hT.keep hb hlt
  replace hlt := Nat.lt_of_lt_of_le hlt hb.size
  replace H0 := H0.trans (hb.mono H0.size)
  clear hb
  clear p0
  clear p1
  have hl_8 := hlt
  obtain ⟨W8, hW, b0, b1, b2, hbW, hszW8⟩ := boxes3 w7 #[.bool s0, .slice A0 n0 c0, .slice D0 m0 e0, .bool s1, .slice A1 n1 c1, .slice D1 m1 e1] #[.bool s2, .slice A2 n2 c2, .slice D2 m2 e2, .bool s3, .slice A3 n3 c3, .slice D3 m3 e3] #[.bool s4, .slice A4 n4 c4, .slice D4 m4 e4, .bool s5, .slice A5 n5 c5, .slice D5 m5 e5] 29 29 29
  skip
  skip
  replace f0 := f0.below hbW
  replace f1 := f1.below hbW
  replace f2 := f2.below hbW
  replace f3 := f3.below hbW
  replace f4 := f4.below hbW
  replace f5 := f5.below hbW
  replace hT := hT.keep hbW hlt
  replace hlt := Nat.lt_of_lt_of_le hlt hbW.size
  replace H0 := H0.trans (hbW.mono H0.size)
  clear hbW
  have cb00 := b0.cell 0 _ rfl
  have cb01 := b0.cell 1 _ rfl
  have cb02 := b0.cell 2 _ rfl
  have cb03 := b0.cell 3 _ rfl
  have cb04 := b0.cell 4 _ rfl
  have cb05 := b0.cell 5 _ rfl
  have cb10 := b1.cell 0 _ rfl
  have cb11 := b1.cell 1 _ rfl
  have cb12 := b1.cell 2 _ rfl
  have cb13 := b1.cell 3 _ rfl
  have cb14 := b1.cell 4 _ rfl
  have cb15 := b1.cell 5 _ rfl
  have cb20 := b2.cell 0 _ rfl
  have cb21 := b2.cell 1 _ rfl
  have cb22 := b2.cell 2 _ rfl
  have cb23 := b2.cell 3 _ rfl
  have cb24 := b2.cell 4 _ rfl
  have cb25 := b2.cell 5 _ rfl
  go_wp2_with fail
  clear hW
  clear cb00 cb01 cb02 cb03 cb04 cb05 cb10 cb11 cb12 cb13 cb14 cb15 cb20 cb21 cb22 cb23 cb24 cb25
  obtain ⟨kn, hkn⟩ : ∃ k, oriQ q0 q1 q2 q3 q4 q5 = k := ⟨_, rfl⟩
  have HN := Lib.hid hkn
  clear hkn
  refine (porient_v f0.rq f1.rq f2.rq f3.rq f4.rq f5.rq (by omega) (by omega) (by omega) HN.out).mono ?_
  rintro e w9 ⟨rfl, hb⟩
  replace f0 := f0.below hb
  replace f1 := f1.below hb
  replace f2 := f2.below hb
  replace f3 := f3.below hb
  replace f4 := f4.below hb
  replace f5 := f5.below hb
  replace b0 := b0.below hb
  replace b1 := b1.below hb
  replace b2 := b2.below hb
  replace hT := hT.keep hb hlt
  replace hlt := Nat.lt_of_lt_of_le hlt hb.size
  replace H0 := H0.trans (hb.mono H0.size)
  clear hb
  have cb00 := b0.cell 0 _ rfl
  have cb01 := b0.cell 1 _ rfl
  have cb02 := b0.cell 2 _ rfl
  have cb03 := b0.cell 3 _ rfl
  have cb04 := b0.cell 4 _ rfl
  have cb05 := b0.cell 5 _ rfl
  have cb10 := b1.cell 0 _ rfl
  have cb11 := b1.cell 1 _ rfl
  have cb12 := b1.cell 2 _ rfl
  have cb13 := b1.cell 3 _ rfl
  have cb14 := b1.cell 4 _ rfl
  have cb15 := b1.cell 5 _ rfl
  have cb20 := b2.cell 0 _ rfl
  have cb21 := b2.cell 1 _ rfl
  have cb22 := b2.cell 2 _ rfl
  have cb23 := b2.cell 3 _ rfl
  have cb24 := b2.cell 4 _ rfl
  have cb25 := b2.cell 5 _ rfl
  go_wp2_with fail
  clear cb00 cb01 cb02 cb03 cb04 cb05 cb10 cb11 cb12 cb13 cb14 cb15 cb20 cb21 cb22 cb23 cb24 cb25
  have lt0 := b0.lt
  have lt1 := b1.lt
  have lt2 := b2.lt
  go_cut [8] from 24 (fun s_8 wx => ∃ g t s6 A6 n6 c6 D6 m6 e6 s7 A7 n7 c7 D7 m7 e7, s_8 = .pointer (some ⟨g, 0, none⟩) ∧ Box wx g #[.bool s6, .slice A6 n6 c6, .slice D6 m6 e6, .bool s7, .slice A7 n7 c7, .slice D7 m7 e7] 29 ∧ NQ wx s6 (.slice A6 n6 c6) (.slice D6 m6 e6) (q0 + t * (q2 - q0)) 11 ∧ NQ wx s7 (.slice A7 n7 c7) (.slice D7 m7 e7) (q1 + t * (q3 - q1)) 11 ∧ NQ wx s0 (.slice A0 n0 c0) (.slice D0 m0 e0) q0 2 ∧ NQ wx s1 (.slice A1 n1 c1) (.slice D1 m1 e1) q1 2 ∧ NQ wx s2 (.slice A2 n2 c2) (.slice D2 m2 e2) q2 2 ∧ NQ wx s3 (.slice A3 n3 c3) (.slice D3 m3 e3) q3 2 ∧ NQ wx s4 (.slice A4 n4 c4) (.slice D4 m4 e4) q4 2 ∧ NQ wx s5 (.slice A5 n5 c5) (.slice D5 m5 e5) q5 2 ∧ Box wx (w7.heap.size) #[.bool s0, .slice A0 n0 c0, .slice D0 m0 e0, .bool s1, .slice A1 n1 c1, .slice D1 m1 e1] 29 ∧ Box wx (w7.heap.size + 1) #[.bool s2, .slice A2 n2 c2, .slice D2 m2 e2, .bool s3, .slice A3 n3 c3, .slice D3 m3 e3] 29 ∧ Box wx (w7.heap.size + 1 + 1) #[.bool s4, .slice A4 n4 c4, .slice D4 m4 e4, .bool s5, .slice A5 n5 c5, .slice D5 m5 e5] 29 ∧ Below w.heap.size w wx)
  case first =>
    have hD := drawn_below w9
    replace f0 := f0.below hD
    replace f1 := f1.below hD
    replace f2 := f2.below hD
    replace f3 := f3.below hD
    replace f4 := f4.below hD
    replace f5 := f5.below hD
    replace b0 := b0.below hD
    replace b1 := b1.below hD
    replace b2 := b2.below hD
    replace hT := hT.keep hD hlt
    replace hlt := Nat.lt_of_lt_of_le hlt hD.size
    replace H0 := H0.trans (hD.mono H0.size)
    clear hD
    refine wp_region_noPanic ?_
    refine wp_region_held_drew (S := (fun V => V.cell? ⟨w7.heap.size, 0, none⟩ = some (.bool s0) ∧ V.cell? ⟨w7.heap.size, 1, none⟩ = some (.slice A0 n0 c0) ∧ V.cell? ⟨w7.heap.size, 2, none⟩ = some (.slice D0 m0 e0) ∧ V.cell? ⟨w7.heap.size, 3, none⟩ = some (.bool s1) ∧ V.cell? ⟨w7.heap.size, 4, none⟩ = some (.slice A1 n1 c1) ∧ V.cell? ⟨w7.heap.size, 5, none⟩ = some (.slice D1 m1 e1) ∧ V.cell? ⟨w7.heap.size + 1, 0, none⟩ = some (.bool s2) ∧ V.cell? ⟨w7.heap.size + 1, 1, none⟩ = some (.slice A2 n2 c2) ∧ V.cell? ⟨w7.heap.size + 1, 2, none⟩ = some (.slice D2 m2 e2) ∧ V.cell? ⟨w7.heap.size + 1, 3, none⟩ = some (.bool s3) ∧ V.cell? ⟨w7.heap.size + 1, 4, none⟩ = some (.slice A3 n3 c3) ∧ V.cell? ⟨w7.heap.size + 1, 5, none⟩ = some (.slice D3 m3 e3) ∧ V.cell? ⟨w7.heap.size + 1 + 1, 0, none⟩ = some (.bool s4) ∧ V.cell? ⟨w7.heap.size + 1 + 1, 1, none⟩ = some (.slice A4 n4 c4) ∧ V.cell? ⟨w7.heap.size + 1 + 1, 2, none⟩ = some (.slice D4 m4 e4) ∧ V.cell? ⟨w7.heap.size + 1 + 1, 3, none⟩ = some (.bool s5) ∧ V.cell? ⟨w7.heap.size + 1 + 1, 4, none⟩ = some (.slice A5 n5 c5) ∧ V.cell? ⟨w7.heap.size + 1 + 1, 5, none⟩ = some (.slice D5 m5 e5))) (by kernel_rfl) ⟨b0.cell 0 _ rfl, b0.cell 1 _ rfl, b0.cell 2 _ rfl, b0.cell 3 _ rfl, b0.cell 4 _ rfl, b0.cell 5 _ rfl, b1.cell 0 _ rfl, b1.cell 1 _ rfl, b1.cell 2 _ rfl, b1.cell 3 _ rfl, b1.cell 4 _ rfl, b1.cell 5 _ rfl, b2.cell 0 _ rfl, b2.cell 1 _ rfl, b2.cell 2 _ rfl, b2.cell 3 _ rfl, b2.cell 4 _ rfl, b2.cell 5 _ rfl⟩ (fun hHeld => ?_)
    generalize w9.drew = v10 at f0 f1 f2 f3 f4 f5 b0 b1 b2 hT H0 hlt hHeld ⊢
    refine wpAnyH_take (i := 0) (v := ?_) rfl (by kernel_rfl) (by kernel_rfl) (by kernel_rfl) (fun _ _ _ h => h) (Or.inl ⟨by rfl, ?_⟩) (by assumption) ?_
    rotate_left
    · (intro w hSw; (try dsimp only at hSw); go_simp; (try with_reducible rfl))
    (try simp only [List.getElem_toArray, List.getElem_cons_zero, Act.put, List.setIfInBounds_toArray, List.set_cons_zero, List.set_cons_succ])
    refine wpAnyH_take (i := 1) (v := ?_) rfl (by kernel_rfl) (by kernel_rfl) (by kernel_rfl) (fun _ _ _ h => h) (Or.inl ⟨by rfl, ?_⟩) (by assumption) ?_
    rotate_left
    · (intro w hSw; (try dsimp only at hSw); go_simp; (try with_reducible rfl))
    (try simp only [List.getElem_toArray, List.getElem_cons_succ, List.getElem_cons_zero, Act.put, List.setIfInBounds_toArray, List.set_cons_zero, List.set_cons_succ])
    refine wpAnyH_take (i := 4) (v := ?_) rfl (by kernel_rfl) (by kernel_rfl) (by kernel_rfl) (fun _ _ _ h => h) (Or.inl ⟨by rfl, ?_⟩) (by assumption) ?_
    rotate_left
    · (intro w hSw; (try dsimp only at hSw); go_simp; (try with_reducible rfl))
    (try simp only [List.getElem_toArray, List.getElem_cons_succ, List.getElem_cons_zero, Act.put, List.setIfInBounds_toArray, List.set_cons_zero, List.set_cons_succ])
    refine wpAnyH_take (i := 5) (v := ?_) rfl (by kernel_rfl) (by kernel_rfl) (by kernel_rfl) (fun _ _ _ h => h) (Or.inl ⟨by rfl, ?_⟩) (by assumption) ?_
    rotate_left
    · (intro w hSw; (try dsimp only at hSw); go_simp; (try with_reducible rfl))
    (try simp only [List.getElem_toArray, List.getElem_cons_succ, List.getElem_cons_zero, Act.put, List.setIfInBounds_toArray, List.set_cons_zero, List.set_cons_succ])
    refine wpAnyH_ready (rs := [2, 9]) (by kernel_rfl) (by simp) (AllReadyH.cons (o := _) rfl (fun K hK => ?_) (AllReadyH.cons (o := _) rfl (fun K hK => ?_) AllReadyH.nil))
    · go_simp
      go_at_call 38
      refine (tq_v hT hlt).mono ?_
      rintro e y11 ⟨t, s8, A8, n8, c8, D8, m8, e8, rfl, p8, hT', hg⟩
      replace f0 := f0.tape hT hg
      replace f1 := f1.tape hT hg
      replace f2 := f2.tape hT hg
      replace f3 := f3.tape hT hg
      replace f4 := f4.tape hT hg
      replace f5 := f5.tape hT hg
      replace b0 := b0.other hg (by omega)
      replace b1 := b1.other hg (by omega)
      replace b2 := b2.other hg (by omega)
      replace hlt := Nat.lt_of_lt_of_le hlt hg.size
      replace H0 := H0.grown hg H0.size (by rintro k hk; injection hk with hk; omega)
      clear hT
      have hT := hT'
      clear hT' hg
      go_wp2_with fail
      refine hK.out _ _ ⟨b0.cell 0 _ rfl, b0.cell 1 _ rfl, b0.cell 2 _ rfl, b0.cell 3 _ rfl, b0.cell 4 _ rfl, b0.cell 5 _ rfl, b1.cell 0 _ rfl, b1.cell 1 _ rfl, b1.cell 2 _ rfl, b1.cell 3 _ rfl, b1.cell 4 _ rfl, b1.cell 5 _ rfl, b2.cell 0 _ rfl, b2.cell 1 _ rfl, b2.cell 2 _ rfl, b2.cell 3 _ rfl, b2.cell 4 _ rfl, b2.cell 5 _ rfl⟩ (fun hHeld => ?_)
      clear hK K
      (try simp only [List.getElem_toArray, List.getElem_cons_succ, List.getElem_cons_zero, Act.put, List.setIfInBounds_toArray, List.set_cons_zero, List.set_cons_succ])
      refine wpAnyH_ready (rs := [3, 9]) (by kernel_rfl) (by simp) (AllReadyH.cons (o := _) rfl (fun K hK => ?_) (AllReadyH.cons (o := _) rfl (fun K hK => ?_) AllReadyH.nil))
      · go_simp
        go_at_call 30
        refine (toq_v p8 (by omega)).mono ?_
        rintro e y12 ⟨s9, A9, n9, c9, D9, m9, e9, rfl, p9, hb9⟩
        replace f0 := f0.below hb9
        replace f1 := f1.below hb9
        replace f2 := f2.below hb9
        replace f3 := f3.below hb9
        replace f4 := f4.below hb9
        replace f5 := f5.below hb9
        replace p8 := p8.below hb9
        replace b0 := b0.below hb9
        replace b1 := b1.below hb9
        replace b2 := b2.below hb9
        replace hT := hT.keep hb9 hlt
        replace hlt := Nat.lt_of_lt_of_le hlt hb9.size
        replace H0 := H0.trans (hb9.mono H0.size)
        clear hb9
        clear p8
        go_wp2_with fail
        refine hK.out _ _ ⟨b0.cell 0 _ rfl, b0.cell 1 _ rfl, b0.cell 2 _ rfl, b0.cell 3 _ rfl, b0.cell 4 _ rfl, b0.cell 5 _ rfl, b1.cell 0 _ rfl, b1.cell 1 _ rfl, b1.cell 2 _ rfl, b1.cell 3 _ rfl, b1.cell 4 _ rfl, b1.cell 5 _ rfl, b2.cell 0 _ rfl, b2.cell 1 _ rfl, b2.cell 2 _ rfl, b2.cell 3 _ rfl, b2.cell 4 _ rfl, b2.cell 5 _ rfl⟩ (fun hHeld => ?_)
        clear hK K
        (try simp only [List.getElem_toArray, List.getElem_cons_succ, List.getElem_cons_zero, Act.put, List.setIfInBounds_toArray, List.set_cons_zero, List.set_cons_succ])
        refine wpAnyH_ready (rs := [6, 9]) (by kernel_rfl) (by simp) (AllReadyH.cons (o := _) rfl (fun K hK => ?_) (AllReadyH.cons (o := _) rfl (fun K hK => ?_) AllReadyH.nil))
        · go_simp
          go_at_call 25
          refine (psub_v f2.rq f3.rq f0.rq f1.rq (by omega) (by omega)).mono ?_
          rintro e y13 ⟨s10, A10, n10, c10, D10, m10, e10, s11, A11, n11, c11, D11, m11, e11, rfl, p10, p11, hb9⟩
          replace f0 := f0.below hb9
          replace f1 := f1.below hb9
          replace f2 := f2.below hb9
          replace f3 := f3.below hb9
          replace f4 := f4.below hb9
          replace f5 := f5.below hb9
          replace p9 := p9.below hb9
          replace b0 := b0.below hb9
          replace b1 := b1.below hb9
          replace b2 := b2.below hb9
          replace hT := hT.keep hb9 hlt
          replace hlt := Nat.lt_of_lt_of_le hlt hb9.size
          replace H0 := H0.trans (hb9.mono H0.size)
          clear hb9
          go_wp2_with fail
          refine hK.out _ _ ⟨b0.cell 0 _ rfl, b0.cell 1 _ rfl, b0.cell 2 _ rfl, b0.cell 3 _ rfl, b0.cell 4 _ rfl, b0.cell 5 _ rfl, b1.cell 0 _ rfl, b1.cell 1 _ rfl, b1.cell 2 _ rfl, b1.cell 3 _ rfl, b1.cell 4 _ rfl, b1.cell 5 _ rfl, b2.cell 0 _ rfl, b2.cell 1 _ rfl, b2.cell 2 _ rfl, b2.cell 3 _ rfl, b2.cell 4 _ rfl, b2.cell 5 _ rfl⟩ (fun hHeld => ?_)
          clear hK K
          (try simp only [List.getElem_toArray, List.getElem_cons_succ, List.getElem_cons_zero, Act.put, List.setIfInBounds_toArray, List.set_cons_zero, List.set_cons_succ])
          refine wpAnyH_ready (rs := [7, 9]) (by kernel_rfl) (by simp) (AllReadyH.cons (o := _) rfl (fun K hK => ?_) (AllReadyH.cons (o := _) rfl (fun K hK => ?_) AllReadyH.nil))
          · go_simp
            go_at_call 27
            refine (pscale_v p9.rq p10.rq p11.rq (by omega) (by omega)).mono ?_
            rintro e y14 ⟨s12, A12, n12, c12, D12, m12, e12, s13, A13, n13, c13, D13, m13, e13, rfl, p12, p13, hb9⟩
            replace f0 := f0.below hb9
            replace f1 := f1.below hb9
            replace f2 := f2.below hb9
            replace f3 := f3.below hb9
            replace f4 := f4.below hb9
            replace f5 := f5.below hb9
            replace p9 := p9.below hb9
            replace p10 := p10.below hb9
            replace p11 := p11.below hb9
            replace b0 := b0.below hb9
            replace b1 := b1.below hb9
            replace b2 := b2.below hb9
            replace hT := hT.keep hb9 hlt
            replace hlt := Nat.lt_of_lt_of_le hlt hb9.size
            replace H0 := H0.trans (hb9.mono H0.size)
            clear hb9
            clear p9
            clear p10
            clear p11
            go_wp2_with fail
            refine hK.out _ _ ⟨b0.cell 0 _ rfl, b0.cell 1 _ rfl, b0.cell 2 _ rfl, b0.cell 3 _ rfl, b0.cell 4 _ rfl, b0.cell 5 _ rfl, b1.cell 0 _ rfl, b1.cell 1 _ rfl, b1.cell 2 _ rfl, b1.cell 3 _ rfl, b1.cell 4 _ rfl, b1.cell 5 _ rfl, b2.cell 0 _ rfl, b2.cell 1 _ rfl, b2.cell 2 _ rfl, b2.cell 3 _ rfl, b2.cell 4 _ rfl, b2.cell 5 _ rfl⟩ (fun hHeld => ?_)
            clear hK K
            (try simp only [List.getElem_toArray, List.getElem_cons_succ, List.getElem_cons_zero, Act.put, List.setIfInBounds_toArray, List.set_cons_zero, List.set_cons_succ])
            refine wpAnyH_ready (rs := [8, 9]) (by kernel_rfl) (by simp) (AllReadyH.cons (o := _) rfl (fun K hK => ?_) (AllReadyH.cons (o := _) rfl (fun K hK => ?_) AllReadyH.nil))
            · go_simp
              go_at_call 22
              refine (padd_v f0.rq f1.rq p12.rq p13.rq (by omega) (by omega)).mono ?_
              rintro e y15 ⟨s6, A6, n6, c6, D6, m6, e6, s7, A7, n7, c7, D7, m7, e7, rfl, f6, f7, hb9⟩
              replace f0 := f0.below hb9
              replace f1 := f1.below hb9
              replace f2 := f2.below hb9
              replace f3 := f3.below hb9
              replace f4 := f4.below hb9
              replace f5 := f5.below hb9
              replace p12 := p12.below hb9
              replace p13 := p13.below hb9
              replace b0 := b0.below hb9
              replace b1 := b1.below hb9
              replace b2 := b2.below hb9
              replace hT := hT.keep hb9 hlt
              replace hlt := Nat.lt_of_lt_of_le hlt hb9.size
              replace H0 := H0.trans (hb9.mono H0.size)
              clear hb9
              clear p12
              clear p13
              go_wp2_with fail
              refine hK.out _ _ ⟨b0.cell 0 _ rfl, b0.cell 1 _ rfl, b0.cell 2 _ rfl, b0.cell 3 _ rfl, b0.cell 4 _ rfl, b0.cell 5 _ rfl, b1.cell 0 _ rfl, b1.cell 1 _ rfl, b1.cell 2 _ rfl, b1.cell 3 _ rfl, b1.cell 4 _ rfl, b1.cell 5 _ rfl, b2.cell 0 _ rfl, b2.cell 1 _ rfl, b2.cell 2 _ rfl, b2.cell 3 _ rfl, b2.cell 4 _ rfl, b2.cell 5 _ rfl⟩ (fun hHeld => ?_)
              clear hK K
              (try simp only [List.getElem_toArray, List.getElem_cons_succ, List.getElem_cons_zero, Act.put, List.setIfInBounds_toArray, List.set_cons_zero, List.set_cons_succ])
              refine wpAnyH_ready (rs := [9]) (by kernel_rfl) (by simp) (AllReadyH.cons (o := _) rfl (fun K hK => ?_) AllReadyH.nil)
              have lb0_16 := b0.lt
              have lb1_16 := b1.lt
              have lb2_16 := b2.lt
              go_simp
              obtain ⟨y16, hV, b3, hb9, szy16⟩ := boxes1 y15 #[.bool false, .slice none 0 0, .slice none 0 0, .bool false, .slice none 0 0, .slice none 0 0] 29
              rw [hV]
              clear hV
              replace f0 := f0.below hb9
              replace f1 := f1.below hb9
              replace f2 := f2.below hb9
              replace f3 := f3.below hb9
              replace f4 := f4.below hb9
              replace f5 := f5.below hb9
              replace f6 := f6.below hb9
              replace f7 := f7.below hb9
              replace b0 := b0.below hb9
              replace b1 := b1.below hb9
              replace b2 := b2.below hb9
              replace hT := hT.keep hb9 hlt
              replace hlt := Nat.lt_of_lt_of_le hlt hb9.size
              replace H0 := H0.trans (hb9.mono H0.size)
              clear hb9
              refine hK.out _ _ ⟨b0.cell 0 _ rfl, b0.cell 1 _ rfl, b0.cell 2 _ rfl, b0.cell 3 _ rfl, b0.cell 4 _ rfl, b0.cell 5 _ rfl, b1.cell 0 _ rfl, b1.cell 1 _ rfl, b1.cell 2 _ rfl, b1.cell 3 _ rfl, b1.cell 4 _ rfl, b1.cell 5 _ rfl, b2.cell 0 _ rfl, b2.cell 1 _ rfl, b2.cell 2 _ rfl, b2.cell 3 _ rfl, b2.cell 4 _ rfl, b2.cell 5 _ rfl⟩ (fun hHeld => ?_)
              clear hK K
              (try simp only [List.getElem_toArray, List.getElem_cons_succ, List.getElem_cons_zero, Act.put, List.setIfInBounds_toArray, List.set_cons_zero, List.set_cons_succ])
              have cb30 := b3.cell 0 _ rfl
              have yb30 := b3.frozen 0
              have cb31 := b3.cell 1 _ rfl
              have yb31 := b3.frozen 1
              have cb32 := b3.cell 2 _ rfl
              have yb32 := b3.frozen 2
              have cb33 := b3.cell 3 _ rfl
              have yb33 := b3.frozen 3
              have cb34 := b3.cell 4 _ rfl
              have yb34 := b3.frozen 4
              have cb35 := b3.cell 5 _ rfl
              have yb35 := b3.frozen 5
              refine wpAnyH_ready (rs := [10]) (by kernel_rfl) (by simp) (AllReadyH.cons (o := _) rfl (fun K hK => ?_) AllReadyH.nil)
              go_simp
              clear cb30 yb30 cb31 yb31 cb32 yb32 cb33 yb33 cb34 yb34 cb35 yb35
              have hg := only_store6 y16 (y15.heap.size) (.bool s6) (.slice A6 n6 c6) (.slice D6 m6 e6) (.bool s7) (.slice A7 n7 c7) (.slice D7 m7 e7)
              have hB := b3.stored6 (.bool s6) (.slice A6 n6 c6) (.slice D6 m6 e6) (.bool s7) (.slice A7 n7 c7) (.slice D7 m7 e7)
              generalize hX : ((((((y16.setCell ⟨y15.heap.size, 0, none⟩ (.bool s6)).setCell ⟨y15.heap.size, 1, none⟩ (.slice A6 n6 c6)).setCell ⟨y15.heap.size, 2, none⟩ (.slice D6 m6 e6)).setCell ⟨y15.heap.size, 3, none⟩ (.bool s7)).setCell ⟨y15.heap.size, 4, none⟩ (.slice A7 n7 c7)).setCell ⟨y15.heap.size, 5, none⟩ (.slice D7 m7 e7)) = X17 at hg hB ⊢
              clear hX
              replace f0 := f0.kept b3 (by simp [notInt]) hg
              replace f1 := f1.kept b3 (by simp [notInt]) hg
              replace f2 := f2.kept b3 (by simp [notInt]) hg
              replace f3 := f3.kept b3 (by simp [notInt]) hg
              replace f4 := f4.kept b3 (by simp [notInt]) hg
              replace f5 := f5.kept b3 (by simp [notInt]) hg
              replace f6 := f6.kept b3 (by simp [notInt]) hg
              replace f7 := f7.kept b3 (by simp [notInt]) hg
              replace b0 := b0.other hg (by omega)
              replace b1 := b1.other hg (by omega)
              replace b2 := b2.other hg (by omega)
              replace b3 := hB
              replace H0 := below_only H0 hg (by omega) H0.size
              have hBs := below_only (Below.refl (w.heap.size + 1) y16) hg (by omega) hlt
              replace hT := hT.keep hBs (Nat.lt_succ_self _)
              replace hlt := Nat.lt_of_lt_of_le hlt hg.size
              clear hBs
              clear hg hB
              refine hK.out _ _ ⟨b0.cell 0 _ rfl, b0.cell 1 _ rfl, b0.cell 2 _ rfl, b0.cell 3 _ rfl, b0.cell 4 _ rfl, b0.cell 5 _ rfl, b1.cell 0 _ rfl, b1.cell 1 _ rfl, b1.cell 2 _ rfl, b1.cell 3 _ rfl, b1.cell 4 _ rfl, b1.cell 5 _ rfl, b2.cell 0 _ rfl, b2.cell 1 _ rfl, b2.cell 2 _ rfl, b2.cell 3 _ rfl, b2.cell 4 _ rfl, b2.cell 5 _ rfl⟩ (fun hHeld => ?_)
              clear hK K
              (try simp only [List.getElem_toArray, List.getElem_cons_succ, List.getElem_cons_zero, Act.put, List.setIfInBounds_toArray, List.set_cons_zero, List.set_cons_succ])
              refine wpAnyH_done (by kernel_rfl) ?_ _
              refine NoPanic.normal ?_
              go_wp2_with fail
              go_meet
              exact ⟨_, t, s6, A6, n6, c6, D6, m6, e6, s7, A7, n7, c7, D7, m7, e7, rfl, b3, f6.more (by omega), f7.more (by omega), f0, f1, f2, f3, f4, f5, b0, b1, b2, H0⟩
            · have lb0_15 := b0.lt
              have lb1_15 := b1.lt
              have lb2_15 := b2.lt
              go_simp
              obtain ⟨y15, hV, b3, hb9, szy15⟩ := boxes1 y14 #[.bool false, .slice none 0 0, .slice none 0 0, .bool false, .slice none 0 0, .slice none 0 0] 29
              rw [hV]
              clear hV
              replace f0 := f0.below hb9
              replace f1 := f1.below hb9
              replace f2 := f2.below hb9
              replace f3 := f3.below hb9
              replace f4 := f4.below hb9
              replace f5 := f5.below hb9
              replace p12 := p12.below hb9
              replace p13 := p13.below hb9
              replace b0 := b0.below hb9
              replace b1 := b1.below hb9
              replace b2 := b2.below hb9
              replace hT := hT.keep hb9 hlt
              replace hlt := Nat.lt_of_lt_of_le hlt hb9.size
              replace H0 := H0.trans (hb9.mono H0.size)
              clear hb9
              refine hK.out _ _ ⟨b0.cell 0 _ rfl, b0.cell 1 _ rfl, b0.cell 2 _ rfl, b0.cell 3 _ rfl, b0.cell 4 _ rfl, b0.cell 5 _ rfl, b1.cell 0 _ rfl, b1.cell 1 _ rfl, b1.cell 2 _ rfl, b1.cell 3 _ rfl, b1.cell 4 _ rfl, b1.cell 5 _ rfl, b2.cell 0 _ rfl, b2.cell 1 _ rfl, b2.cell 2 _ rfl, b2.cell 3 _ rfl, b2.cell 4 _ rfl, b2.cell 5 _ rfl⟩ (fun hHeld => ?_)
              clear hK K
              (try simp only [List.getElem_toArray, List.getElem_cons_succ, List.getElem_cons_zero, Act.put, List.setIfInBounds_toArray, List.set_cons_zero, List.set_cons_succ])
              refine wpAnyH_ready (rs := [8]) (by kernel_rfl) (by simp) (AllReadyH.cons (o := _) rfl (fun K hK => ?_) AllReadyH.nil)
              go_simp
              go_at_call 22
              refine (padd_v f0.rq f1.rq p12.rq p13.rq (by omega) (by omega)).mono ?_
              rintro e y16 ⟨s6, A6, n6, c6, D6, m6, e6, s7, A7, n7, c7, D7, m7, e7, rfl, f6, f7, hb9⟩
              replace f0 := f0.below hb9
              replace f1 := f1.below hb9
              replace f2 := f2.below hb9
              replace f3 := f3.below hb9
              replace f4 := f4.below hb9
              replace f5 := f5.below hb9
              replace p12 := p12.below hb9
              replace p13 := p13.below hb9
              replace b0 := b0.below hb9
              replace b1 := b1.below hb9
              replace b2 := b2.below hb9
              replace b3 := b3.below hb9
              replace hT := hT.keep hb9 hlt
              replace hlt := Nat.lt_of_lt_of_le hlt hb9.size
              replace H0 := H0.trans (hb9.mono H0.size)
              clear hb9
              clear p12
              clear p13
              go_wp2_with fail
              refine hK.out _ _ ⟨b0.cell 0 _ rfl, b0.cell 1 _ rfl, b0.cell 2 _ rfl, b0.cell 3 _ rfl, b0.cell 4 _ rfl, b0.cell 5 _ rfl, b1.cell 0 _ rfl, b1.cell 1 _ rfl, b1.cell 2 _ rfl, b1.cell 3 _ rfl, b1.cell 4 _ rfl, b1.cell 5 _ rfl, b2.cell 0 _ rfl, b2.cell 1 _ rfl, b2.cell 2 _ rfl, b2.cell 3 _ rfl, b2.cell 4 _ rfl, b2.cell 5 _ rfl⟩ (fun hHeld => ?_)
              clear hK K
              (try simp only [List.getElem_toArray, List.getElem_cons_succ, List.getElem_cons_zero, Act.put, List.setIfInBounds_toArray, List.set_cons_zero, List.set_cons_succ])
              have cb30 := b3.cell 0 _ rfl
              have yb30 := b3.frozen 0
              have cb31 := b3.cell 1 _ rfl
              have yb31 := b3.frozen 1
              have cb32 := b3.cell 2 _ rfl
              have yb32 := b3.frozen 2
              have cb33 := b3.cell 3 _ rfl
              have yb33 := b3.frozen 3
              have cb34 := b3.cell 4 _ rfl
              have yb34 := b3.frozen 4
              have cb35 := b3.cell 5 _ rfl
              have yb35 := b3.frozen 5
              refine wpAnyH_ready (rs := [10]) (by kernel_rfl) (by simp) (AllReadyH.cons (o := _) rfl (fun K hK => ?_) AllReadyH.nil)
              go_simp
              clear cb30 yb30 cb31 yb31 cb32 yb32 cb33 yb33 cb34 yb34 cb35 yb35
              have hg := only_store6 y16 (y14.heap.size) (.bool s6) (.slice A6 n6 c6) (.slice D6 m6 e6) (.bool s7) (.slice A7 n7 c7) (.slice D7 m7 e7)
              have hB := b3.stored6 (.bool s6) (.slice A6 n6 c6) (.slice D6 m6 e6) (.bool s7) (.slice A7 n7 c7) (.slice D7 m7 e7)
              generalize hX : ((((((y16.setCell ⟨y14.heap.size, 0, none⟩ (.bool s6)).setCell ⟨y14.heap.size, 1, none⟩ (.slice A6 n6 c6)).setCell ⟨y14.heap.size, 2, none⟩ (.slice D6 m6 e6)).setCell ⟨y14.heap.size, 3, none⟩ (.bool s7)).setCell ⟨y14.heap.size, 4, none⟩ (.slice A7 n7 c7)).setCell ⟨y14.heap.size, 5, none⟩ (.slice D7 m7 e7)) = X17 at hg hB ⊢
              clear hX
              replace f0 := f0.kept b3 (by simp [notInt]) hg
              replace f1 := f1.kept b3 (by simp [notInt]) hg
              replace f2 := f2.kept b3 (by simp [notInt]) hg
              replace f3 := f3.kept b3 (by simp [notInt]) hg
              replace f4 := f4.kept b3 (by simp [notInt]) hg
              replace f5 := f5.kept b3 (by simp [notInt]) hg
              replace f6 := f6.kept b3 (by simp [notInt]) hg
              replace f7 := f7.kept b3 (by simp [notInt]) hg
              replace b0 := b0.other hg (by omega)
              replace b1 := b1.other hg (by omega)
              replace b2 := b2.other hg (by omega)
              replace b3 := hB
              replace H0 := below_only H0 hg (by omega) H0.size
              have hBs := below_only (Below.refl (w.heap.size + 1) y16) hg (by omega) hlt
              replace hT := hT.keep hBs (Nat.lt_succ_self _)
              replace hlt := Nat.lt_of_lt_of_le hlt hg.size
              clear hBs
              clear hg hB
              refine hK.out _ _ ⟨b0.cell 0 _ rfl, b0.cell 1 _ rfl, b0.cell 2 _ rfl, b0.cell 3 _ rfl, b0.cell 4 _ rfl, b0.cell 5 _ rfl, b1.cell 0 _ rfl, b1.cell 1 _ rfl, b1.cell 2 _ rfl, b1.cell 3 _ rfl, b1.cell 4 _ rfl, b1.cell 5 _ rfl, b2.cell 0 _ rfl, b2.cell 1 _ rfl, b2.cell 2 _ rfl, b2.cell 3 _ rfl, b2.cell 4 _ rfl, b2.cell 5 _ rfl⟩ (fun hHeld => ?_)
              clear hK K
              (try simp only [List.getElem_toArray, List.getElem_cons_succ, List.getElem_cons_zero, Act.put, List.setIfInBounds_toArray, List.set_cons_zero, List.set_cons_succ])
              refine wpAnyH_done (by kernel_rfl) ?_ _
              refine NoPanic.normal ?_
              go_wp2_with fail
              go_meet
              exact ⟨_, t, s6, A6, n6, c6, D6, m6, e6, s7, A7, n7, c7, D7, m7, e7, rfl, b3, f6.more (by omega), f7.more (by omega), f0, f1, f2, f3, f4, f5, b0, b1, b2, H0⟩
          · have lb0_14 := b0.lt
            have lb1_14 := b1.lt
            have lb2_14 := b2.lt
            go_simp
            obtain ⟨y14, hV, b3, hb9, szy14⟩ := boxes1 y13 #[.bool false, .slice none 0 0, .slice none 0 0, .bool false, .slice none 0 0, .slice none 0 0] 29
            rw [hV]
            clear hV
            replace f0 := f0.below hb9
            replace f1 := f1.below hb9
            replace f2 := f2.below hb9
            replace f3 := f3.below hb9
            replace f4 := f4.below hb9
            replace f5 := f5.below hb9
            replace p9 := p9.below hb9
            replace p10 := p10.below hb9
            replace p11 := p11.below hb9
            replace b0 := b0.below hb9
            replace b1 := b1.below hb9
            replace b2 := b2.below hb9
            replace hT := hT.keep hb9 hlt
            replace hlt := Nat.lt_of_lt_of_le hlt hb9.size
            replace H0 := H0.trans (hb9.mono H0.size)
            clear hb9
            refine hK.out _ _ ⟨b0.cell 0 _ rfl, b0.cell 1 _ rfl, b0.cell 2 _ rfl, b0.cell 3 _ rfl, b0.cell 4 _ rfl, b0.cell 5 _ rfl, b1.cell 0 _ rfl, b1.cell 1 _ rfl, b1.cell 2 _ rfl, b1.cell 3 _ rfl, b1.cell 4 _ rfl, b1.cell 5 _ rfl, b2.cell 0 _ rfl, b2.cell 1 _ rfl, b2.cell 2 _ rfl, b2.cell 3 _ rfl, b2.cell 4 _ rfl, b2.cell 5 _ rfl⟩ (fun hHeld => ?_)
            clear hK K
            (try simp only [List.getElem_toArray, List.getElem_cons_succ, List.getElem_cons_zero, Act.put, List.setIfInBounds_toArray, List.set_cons_zero, List.set_cons_succ])
            refine wpAnyH_ready (rs := [7]) (by kernel_rfl) (by simp) (AllReadyH.cons (o := _) rfl (fun K hK => ?_) AllReadyH.nil)
            go_simp
            go_at_call 27
            refine (pscale_v p9.rq p10.rq p11.rq (by omega) (by omega)).mono ?_
            rintro e y15 ⟨s12, A12, n12, c12, D12, m12, e12, s13, A13, n13, c13, D13, m13, e13, rfl, p12, p13, hb9⟩
            replace f0 := f0.below hb9
            replace f1 := f1.below hb9
            replace f2 := f2.below hb9
            replace f3 := f3.below hb9
            replace f4 := f4.below hb9
            replace f5 := f5.below hb9
            replace p9 := p9.below hb9
            replace p10 := p10.below hb9
            replace p11 := p11.below hb9
            replace b0 := b0.below hb9
            replace b1 := b1.below hb9
            replace b2 := b2.below hb9
            replace b3 := b3.below hb9
            replace hT := hT.keep hb9 hlt
            replace hlt := Nat.lt_of_lt_of_le hlt hb9.size
            replace H0 := H0.trans (hb9.mono H0.size)
            clear hb9
            clear p9
            clear p10
            clear p11
            go_wp2_with fail
            refine hK.out _ _ ⟨b0.cell 0 _ rfl, b0.cell 1 _ rfl, b0.cell 2 _ rfl, b0.cell 3 _ rfl, b0.cell 4 _ rfl, b0.cell 5 _ rfl, b1.cell 0 _ rfl, b1.cell 1 _ rfl, b1.cell 2 _ rfl, b1.cell 3 _ rfl, b1.cell 4 _ rfl, b1.cell 5 _ rfl, b2.cell 0 _ rfl, b2.cell 1 _ rfl, b2.cell 2 _ rfl, b2.cell 3 _ rfl, b2.cell 4 _ rfl, b2.cell 5 _ rfl⟩ (fun hHeld => ?_)
            clear hK K
            (try simp only [List.getElem_toArray, List.getElem_cons_succ, List.getElem_cons_zero, Act.put, List.setIfInBounds_toArray, List.set_cons_zero, List.set_cons_succ])
            refine wpAnyH_ready (rs := [8]) (by kernel_rfl) (by simp) (AllReadyH.cons (o := _) rfl (fun K hK => ?_) AllReadyH.nil)
            go_simp
            go_at_call 22
            refine (padd_v f0.rq f1.rq p12.rq p13.rq (by omega) (by omega)).mono ?_
            rintro e y16 ⟨s6, A6, n6, c6, D6, m6, e6, s7, A7, n7, c7, D7, m7, e7, rfl, f6, f7, hb9⟩
            replace f0 := f0.below hb9
            replace f1 := f1.below hb9
            replace f2 := f2.below hb9
            replace f3 := f3.below hb9
            replace f4 := f4.below hb9
            replace f5 := f5.below hb9
            replace p12 := p12.below hb9
            replace p13 := p13.below hb9
            replace b0 := b0.below hb9
            replace b1 := b1.below hb9
            replace b2 := b2.below hb9
            replace b3 := b3.below hb9
            replace hT := hT.keep hb9 hlt
            replace hlt := Nat.lt_of_lt_of_le hlt hb9.size
            replace H0 := H0.trans (hb9.mono H0.size)
            clear hb9
            clear p12
            clear p13
            go_wp2_with fail
            refine hK.out _ _ ⟨b0.cell 0 _ rfl, b0.cell 1 _ rfl, b0.cell 2 _ rfl, b0.cell 3 _ rfl, b0.cell 4 _ rfl, b0.cell 5 _ rfl, b1.cell 0 _ rfl, b1.cell 1 _ rfl, b1.cell 2 _ rfl, b1.cell 3 _ rfl, b1.cell 4 _ rfl, b1.cell 5 _ rfl, b2.cell 0 _ rfl, b2.cell 1 _ rfl, b2.cell 2 _ rfl, b2.cell 3 _ rfl, b2.cell 4 _ rfl, b2.cell 5 _ rfl⟩ (fun hHeld => ?_)
            clear hK K
            (try simp only [List.getElem_toArray, List.getElem_cons_succ, List.getElem_cons_zero, Act.put, List.setIfInBounds_toArray, List.set_cons_zero, List.set_cons_succ])
            have cb30 := b3.cell 0 _ rfl
            have yb30 := b3.frozen 0
            have cb31 := b3.cell 1 _ rfl
            have yb31 := b3.frozen 1
            have cb32 := b3.cell 2 _ rfl
            have yb32 := b3.frozen 2
            have cb33 := b3.cell 3 _ rfl
            have yb33 := b3.frozen 3
            have cb34 := b3.cell 4 _ rfl
            have yb34 := b3.frozen 4
            have cb35 := b3.cell 5 _ rfl
            have yb35 := b3.frozen 5
            refine wpAnyH_ready (rs := [10]) (by kernel_rfl) (by simp) (AllReadyH.cons (o := _) rfl (fun K hK => ?_) AllReadyH.nil)
            go_simp
            clear cb30 yb30 cb31 yb31 cb32 yb32 cb33 yb33 cb34 yb34 cb35 yb35
            have hg := only_store6 y16 (y13.heap.size) (.bool s6) (.slice A6 n6 c6) (.slice D6 m6 e6) (.bool s7) (.slice A7 n7 c7) (.slice D7 m7 e7)
            have hB := b3.stored6 (.bool s6) (.slice A6 n6 c6) (.slice D6 m6 e6) (.bool s7) (.slice A7 n7 c7) (.slice D7 m7 e7)
            generalize hX : ((((((y16.setCell ⟨y13.heap.size, 0, none⟩ (.bool s6)).setCell ⟨y13.heap.size, 1, none⟩ (.slice A6 n6 c6)).setCell ⟨y13.heap.size, 2, none⟩ (.slice D6 m6 e6)).setCell ⟨y13.heap.size, 3, none⟩ (.bool s7)).setCell ⟨y13.heap.size, 4, none⟩ (.slice A7 n7 c7)).setCell ⟨y13.heap.size, 5, none⟩ (.slice D7 m7 e7)) = X17 at hg hB ⊢
            clear hX
            replace f0 := f0.kept b3 (by simp [notInt]) hg
            replace f1 := f1.kept b3 (by simp [notInt]) hg
            replace f2 := f2.kept b3 (by simp [notInt]) hg
            replace f3 := f3.kept b3 (by simp [notInt]) hg
            replace f4 := f4.kept b3 (by simp [notInt]) hg
            replace f5 := f5.kept b3 (by simp [notInt]) hg
            replace f6 := f6.kept b3 (by simp [notInt]) hg
            replace f7 := f7.kept b3 (by simp [notInt]) hg
            replace b0 := b0.other hg (by omega)
            replace b1 := b1.other hg (by omega)
            replace b2 := b2.other hg (by omega)
            replace b3 := hB
            replace H0 := below_only H0 hg (by omega) H0.size
            have hBs := below_only (Below.refl (w.heap.size + 1) y16) hg (by omega) hlt
            replace hT := hT.keep hBs (Nat.lt_succ_self _)
            replace hlt := Nat.lt_of_lt_of_le hlt hg.size
            clear hBs
            clear hg hB
            refine hK.out _ _ ⟨b0.cell 0 _ rfl, b0.cell 1 _ rfl, b0.cell 2 _ rfl, b0.cell 3 _ rfl, b0.cell 4 _ rfl, b0.cell 5 _ rfl, b1.cell 0 _ rfl, b1.cell 1 _ rfl, b1.cell 2 _ rfl, b1.cell 3 _ rfl, b1.cell 4 _ rfl, b1.cell 5 _ rfl, b2.cell 0 _ rfl, b2.cell 1 _ rfl, b2.cell 2 _ rfl, b2.cell 3 _ rfl, b2.cell 4 _ rfl, b2.cell 5 _ rfl⟩ (fun hHeld => ?_)
            clear hK K
            (try simp only [List.getElem_toArray, List.getElem_cons_succ, List.getElem_cons_zero, Act.put, List.setIfInBounds_toArray, List.set_cons_zero, List.set_cons_succ])
            refine wpAnyH_done (by kernel_rfl) ?_ _
            refine NoPanic.normal ?_
            go_wp2_with fail
            go_meet
            exact ⟨_, t, s6, A6, n6, c6, D6, m6, e6, s7, A7, n7, c7, D7, m7, e7, rfl, b3, f6.more (by omega), f7.more (by omega), f0, f1, f2, f3, f4, f5, b0, b1, b2, H0⟩
        · have lb0_13 := b0.lt
          have lb1_13 := b1.lt
          have lb2_13 := b2.lt
          go_simp
          obtain ⟨y13, hV, b3, hb9, szy13⟩ := boxes1 y12 #[.bool false, .slice none 0 0, .slice none 0 0, .bool false, .slice none 0 0, .slice none 0 0] 29
          rw [hV]
          clear hV
          replace f0 := f0.below hb9
          replace f1 := f1.below hb9
          replace f2 := f2.below hb9
          replace f3 := f3.below hb9
          replace f4 := f4.below hb9
          replace f5 := f5.below hb9
          replace p9 := p9.below hb9
          replace b0 := b0.below hb9
          replace b1 := b1.below hb9
          replace b2 := b2.below hb9
          replace hT := hT.keep hb9 hlt
          replace hlt := Nat.lt_of_lt_of_le hlt hb9.size
          replace H0 := H0.trans (hb9.mono H0.size)
          clear hb9
          refine hK.out _ _ ⟨b0.cell 0 _ rfl, b0.cell 1 _ rfl, b0.cell 2 _ rfl, b0.cell 3 _ rfl, b0.cell 4 _ rfl, b0.cell 5 _ rfl, b1.cell 0 _ rfl, b1.cell 1 _ rfl, b1.cell 2 _ rfl, b1.cell 3 _ rfl, b1.cell 4 _ rfl, b1.cell 5 _ rfl, b2.cell 0 _ rfl, b2.cell 1 _ rfl, b2.cell 2 _ rfl, b2.cell 3 _ rfl, b2.cell 4 _ rfl, b2.cell 5 _ rfl⟩ (fun hHeld => ?_)
          clear hK K
          (try simp only [List.getElem_toArray, List.getElem_cons_succ, List.getElem_cons_zero, Act.put, List.setIfInBounds_toArray, List.set_cons_zero, List.set_cons_succ])
          refine wpAnyH_ready (rs := [6]) (by kernel_rfl) (by simp) (AllReadyH.cons (o := _) rfl (fun K hK => ?_) AllReadyH.nil)
          go_simp
          go_at_call 25
          refine (psub_v f2.rq f3.rq f0.rq f1.rq (by omega) (by omega)).mono ?_
          rintro e y14 ⟨s10, A10, n10, c10, D10, m10, e10, s11, A11, n11, c11, D11, m11, e11, rfl, p10, p11, hb9⟩
          replace f0 := f0.below hb9
          replace f1 := f1.below hb9
          replace f2 := f2.below hb9
          replace f3 := f3.below hb9
          replace f4 := f4.below hb9
          replace f5 := f5.below hb9
          replace p9 := p9.below hb9
          replace b0 := b0.below hb9
          replace b1 := b1.below hb9
          replace b2 := b2.below hb9
          replace b3 := b3.below hb9
          replace hT := hT.keep hb9 hlt
          replace hlt := Nat.lt_of_lt_of_le hlt hb9.size
          replace H0 := H0.trans (hb9.mono H0.size)
          clear hb9
          go_wp2_with fail
          refine hK.out _ _ ⟨b0.cell 0 _ rfl, b0.cell 1 _ rfl, b0.cell 2 _ rfl, b0.cell 3 _ rfl, b0.cell 4 _ rfl, b0.cell 5 _ rfl, b1.cell 0 _ rfl, b1.cell 1 _ rfl, b1.cell 2 _ rfl, b1.cell 3 _ rfl, b1.cell 4 _ rfl, b1.cell 5 _ rfl, b2.cell 0 _ rfl, b2.cell 1 _ rfl, b2.cell 2 _ rfl, b2.cell 3 _ rfl, b2.cell 4 _ rfl, b2.cell 5 _ rfl⟩ (fun hHeld => ?_)
          clear hK K
          (try simp only [List.getElem_toArray, List.getElem_cons_succ, List.getElem_cons_zero, Act.put, List.setIfInBounds_toArray, List.set_cons_zero, List.set_cons_succ])
          refine wpAnyH_ready (rs := [7]) (by kernel_rfl) (by simp) (AllReadyH.cons (o := _) rfl (fun K hK => ?_) AllReadyH.nil)
          go_simp
          go_at_call 27
          refine (pscale_v p9.rq p10.rq p11.rq (by omega) (by omega)).mono ?_
          rintro e y15 ⟨s12, A12, n12, c12, D12, m12, e12, s13, A13, n13, c13, D13, m13, e13, rfl, p12, p13, hb9⟩
          replace f0 := f0.below hb9
          replace f1 := f1.below hb9
          replace f2 := f2.below hb9
          replace f3 := f3.below hb9
          replace f4 := f4.below hb9
          replace f5 := f5.below hb9
          replace p9 := p9.below hb9
          replace p10 := p10.below hb9
          replace p11 := p11.below hb9
          replace b0 := b0.below hb9
          replace b1 := b1.below hb9
          replace b2 := b2.below hb9
          replace b3 := b3.below hb9
          replace hT := hT.keep hb9 hlt
          replace hlt := Nat.lt_of_lt_of_le hlt hb9.size
          replace H0 := H0.trans (hb9.mono H0.size)
          clear hb9
          clear p9
          clear p10
          clear p11
          go_wp2_with fail
          refine hK.out _ _ ⟨b0.cell 0 _ rfl, b0.cell 1 _ rfl, b0.cell 2 _ rfl, b0.cell 3 _ rfl, b0.cell 4 _ rfl, b0.cell 5 _ rfl, b1.cell 0 _ rfl, b1.cell 1 _ rfl, b1.cell 2 _ rfl, b1.cell 3 _ rfl, b1.cell 4 _ rfl, b1.cell 5 _ rfl, b2.cell 0 _ rfl, b2.cell 1 _ rfl, b2.cell 2 _ rfl, b2.cell 3 _ rfl, b2.cell 4 _ rfl, b2.cell 5 _ rfl⟩ (fun hHeld => ?_)
          clear hK K
          (try simp only [List.getElem_toArray, List.getElem_cons_succ, List.getElem_cons_zero, Act.put, List.setIfInBounds_toArray, List.set_cons_zero, List.set_cons_succ])
          refine wpAnyH_ready (rs := [8]) (by kernel_rfl) (by simp) (AllReadyH.cons (o := _) rfl (fun K hK => ?_) AllReadyH.nil)
          go_simp
          go_at_call 22
          refine (padd_v f0.rq f1.rq p12.rq p13.rq (by omega) (by omega)).mono ?_
          rintro e y16 ⟨s6, A6, n6, c6, D6, m6, e6, s7, A7, n7, c7, D7, m7, e7, rfl, f6, f7, hb9⟩
          replace f0 := f0.below hb9
          replace f1 := f1.below hb9
          replace f2 := f2.below hb9
          replace f3 := f3.below hb9
          replace f4 := f4.below hb9
          replace f5 := f5.below hb9
          replace p12 := p12.below hb9
          replace p13 := p13.below hb9
          replace b0 := b0.below hb9
          replace b1 := b1.below hb9
          replace b2 := b2.below hb9
          replace b3 := b3.below hb9
          replace hT := hT.keep hb9 hlt
          replace hlt := Nat.lt_of_lt_of_le hlt hb9.size
          replace H0 := H0.trans (hb9.mono H0.size)
          clear hb9
          clear p12
          clear p13
          go_wp2_with fail
          refine hK.out _ _ ⟨b0.cell 0 _ rfl, b0.cell 1 _ rfl, b0.cell 2 _ rfl, b0.cell 3 _ rfl, b0.cell 4 _ rfl, b0.cell 5 _ rfl, b1.cell 0 _ rfl, b1.cell 1 _ rfl, b1.cell 2 _ rfl, b1.cell 3 _ rfl, b1.cell 4 _ rfl, b1.cell 5 _ rfl, b2.cell 0 _ rfl, b2.cell 1 _ rfl, b2.cell 2 _ rfl, b2.cell 3 _ rfl, b2.cell 4 _ rfl, b2.cell 5 _ rfl⟩ (fun hHeld => ?_)
          clear hK K
          (try simp only [List.getElem_toArray, List.getElem_cons_succ, List.getElem_cons_zero, Act.put, List.setIfInBounds_toArray, List.set_cons_zero, List.set_cons_succ])
          have cb30 := b3.cell 0 _ rfl
          have yb30 := b3.frozen 0
          have cb31 := b3.cell 1 _ rfl
          have yb31 := b3.frozen 1
          have cb32 := b3.cell 2 _ rfl
          have yb32 := b3.frozen 2
          have cb33 := b3.cell 3 _ rfl
          have yb33 := b3.frozen 3
          have cb34 := b3.cell 4 _ rfl
          have yb34 := b3.frozen 4
          have cb35 := b3.cell 5 _ rfl
          have yb35 := b3.frozen 5
          refine wpAnyH_ready (rs := [10]) (by kernel_rfl) (by simp) (AllReadyH.cons (o := _) rfl (fun K hK => ?_) AllReadyH.nil)
          go_simp
          clear cb30 yb30 cb31 yb31 cb32 yb32 cb33 yb33 cb34 yb34 cb35 yb35
          have hg := only_store6 y16 (y12.heap.size) (.bool s6) (.slice A6 n6 c6) (.slice D6 m6 e6) (.bool s7) (.slice A7 n7 c7) (.slice D7 m7 e7)
          have hB := b3.stored6 (.bool s6) (.slice A6 n6 c6) (.slice D6 m6 e6) (.bool s7) (.slice A7 n7 c7) (.slice D7 m7 e7)
          generalize hX : ((((((y16.setCell ⟨y12.heap.size, 0, none⟩ (.bool s6)).setCell ⟨y12.heap.size, 1, none⟩ (.slice A6 n6 c6)).setCell ⟨y12.heap.size, 2, none⟩ (.slice D6 m6 e6)).setCell ⟨y12.heap.size, 3, none⟩ (.bool s7)).setCell ⟨y12.heap.size, 4, none⟩ (.slice A7 n7 c7)).setCell ⟨y12.heap.size, 5, none⟩ (.slice D7 m7 e7)) = X17 at hg hB ⊢
          clear hX
          replace f0 := f0.kept b3 (by simp [notInt]) hg
          replace f1 := f1.kept b3 (by simp [notInt]) hg
          replace f2 := f2.kept b3 (by simp [notInt]) hg
          replace f3 := f3.kept b3 (by simp [notInt]) hg
          replace f4 := f4.kept b3 (by simp [notInt]) hg
          replace f5 := f5.kept b3 (by simp [notInt]) hg
          replace f6 := f6.kept b3 (by simp [notInt]) hg
          replace f7 := f7.kept b3 (by simp [notInt]) hg
          replace b0 := b0.other hg (by omega)
          replace b1 := b1.other hg (by omega)
          replace b2 := b2.other hg (by omega)
          replace b3 := hB
          replace H0 := below_only H0 hg (by omega) H0.size
          have hBs := below_only (Below.refl (w.heap.size + 1) y16) hg (by omega) hlt
          replace hT := hT.keep hBs (Nat.lt_succ_self _)
          replace hlt := Nat.lt_of_lt_of_le hlt hg.size
          clear hBs
          clear hg hB
          refine hK.out _ _ ⟨b0.cell 0 _ rfl, b0.cell 1 _ rfl, b0.cell 2 _ rfl, b0.cell 3 _ rfl, b0.cell 4 _ rfl, b0.cell 5 _ rfl, b1.cell 0 _ rfl, b1.cell 1 _ rfl, b1.cell 2 _ rfl, b1.cell 3 _ rfl, b1.cell 4 _ rfl, b1.cell 5 _ rfl, b2.cell 0 _ rfl, b2.cell 1 _ rfl, b2.cell 2 _ rfl, b2.cell 3 _ rfl, b2.cell 4 _ rfl, b2.cell 5 _ rfl⟩ (fun hHeld => ?_)
          clear hK K
          (try simp only [List.getElem_toArray, List.getElem_cons_succ, List.getElem_cons_zero, Act.put, List.setIfInBounds_toArray, List.set_cons_zero, List.set_cons_succ])
          refine wpAnyH_done (by kernel_rfl) ?_ _
          refine NoPanic.normal ?_
          go_wp2_with fail
          go_meet
          exact ⟨_, t, s6, A6, n6, c6, D6, m6, e6, s7, A7, n7, c7, D7, m7, e7, rfl, b3, f6.more (by omega), f7.more (by omega), f0, f1, f2, f3, f4, f5, b0, b1, b2, H0⟩
      · have lb0_12 := b0.lt
        have lb1_12 := b1.lt
        have lb2_12 := b2.lt
        go_simp
        obtain ⟨y12, hV, b3, hb9, szy12⟩ := boxes1 y11 #[.bool false, .slice none 0 0, .slice none 0 0, .bool false, .slice none 0 0, .slice none 0 0] 29
        rw [hV]
        clear hV
        replace f0 := f0.below hb9
        replace f1 := f1.below hb9
        replace f2 := f2.below hb9
        replace f3 := f3.below hb9
        replace f4 := f4.below hb9
        replace f5 := f5.below hb9
        replace p8 := p8.below hb9
        replace b0 := b0.below hb9
        replace b1 := b1.below hb9
        replace b2 := b2.below hb9
        replace hT := hT.keep hb9 hlt
        replace hlt := Nat.lt_of_lt_of_le hlt hb9.size
        replace H0 := H0.trans (hb9.mono H0.size)
        clear hb9
        refine hK.out _ _ ⟨b0.cell 0 _ rfl, b0.cell 1 _ rfl, b0.cell 2 _ rfl, b0.cell 3 _ rfl, b0.cell 4 _ rfl, b0.cell 5 _ rfl, b1.cell 0 _ rfl, b1.cell 1 _ rfl, b1.cell 2 _ rfl, b1.cell 3 _ rfl, b1.cell 4 _ rfl, b1.cell 5 _ rfl, b2.cell 0 _ rfl, b2.cell 1 _ rfl, b2.cell 2 _ rfl, b2.cell 3 _ rfl, b2.cell 4 _ rfl, b2.cell 5 _ rfl⟩ (fun hHeld => ?_)
        clear hK K
        (try simp only [List.getElem_toArray, List.getElem_cons_succ, List.getElem_cons_zero, Act.put, List.setIfInBounds_toArray, List.set_cons_zero, List.set_cons_succ])
        refine wpAnyH_ready (rs := [3]) (by kernel_rfl) (by simp) (AllReadyH.cons (o := _) rfl (fun K hK => ?_) AllReadyH.nil)
        go_simp
        go_at_call 30
        refine (toq_v p8 (by omega)).mono ?_
        rintro e y13 ⟨s9, A9, n9, c9, D9, m9, e9, rfl, p9, hb9⟩
        replace f0 := f0.below hb9
        replace f1 := f1.below hb9
        replace f2 := f2.below hb9
        replace f3 := f3.below hb9
        replace f4 := f4.below hb9
        replace f5 := f5.below hb9
        replace p8 := p8.below hb9
        replace b0 := b0.below hb9
        replace b1 := b1.below hb9
        replace b2 := b2.below hb9
        replace b3 := b3.below hb9
        replace hT := hT.keep hb9 hlt
        replace hlt := Nat.lt_of_lt_of_le hlt hb9.size
        replace H0 := H0.trans (hb9.mono H0.size)
        clear hb9
        clear p8
        go_wp2_with fail
        refine hK.out _ _ ⟨b0.cell 0 _ rfl, b0.cell 1 _ rfl, b0.cell 2 _ rfl, b0.cell 3 _ rfl, b0.cell 4 _ rfl, b0.cell 5 _ rfl, b1.cell 0 _ rfl, b1.cell 1 _ rfl, b1.cell 2 _ rfl, b1.cell 3 _ rfl, b1.cell 4 _ rfl, b1.cell 5 _ rfl, b2.cell 0 _ rfl, b2.cell 1 _ rfl, b2.cell 2 _ rfl, b2.cell 3 _ rfl, b2.cell 4 _ rfl, b2.cell 5 _ rfl⟩ (fun hHeld => ?_)
        clear hK K
        (try simp only [List.getElem_toArray, List.getElem_cons_succ, List.getElem_cons_zero, Act.put, List.setIfInBounds_toArray, List.set_cons_zero, List.set_cons_succ])
        refine wpAnyH_ready (rs := [6]) (by kernel_rfl) (by simp) (AllReadyH.cons (o := _) rfl (fun K hK => ?_) AllReadyH.nil)
        go_simp
        go_at_call 25
        refine (psub_v f2.rq f3.rq f0.rq f1.rq (by omega) (by omega)).mono ?_
        rintro e y14 ⟨s10, A10, n10, c10, D10, m10, e10, s11, A11, n11, c11, D11, m11, e11, rfl, p10, p11, hb9⟩
        replace f0 := f0.below hb9
        replace f1 := f1.below hb9
        replace f2 := f2.below hb9
        replace f3 := f3.below hb9
        replace f4 := f4.below hb9
        replace f5 := f5.below hb9
        replace p9 := p9.below hb9
        replace b0 := b0.below hb9
        replace b1 := b1.below hb9
        replace b2 := b2.below hb9
        replace b3 := b3.below hb9
        replace hT := hT.keep hb9 hlt
        replace hlt := Nat.lt_of_lt_of_le hlt hb9.size
        replace H0 := H0.trans (hb9.mono H0.size)
        clear hb9
        go_wp2_with fail
        refine hK.out _ _ ⟨b0.cell 0 _ rfl, b0.cell 1 _ rfl, b0.cell 2 _ rfl, b0.cell 3 _ rfl, b0.cell 4 _ rfl, b0.cell 5 _ rfl, b1.cell 0 _ rfl, b1.cell 1 _ rfl, b1.cell 2 _ rfl, b1.cell 3 _ rfl, b1.cell 4 _ rfl, b1.cell 5 _ rfl, b2.cell 0 _ rfl, b2.cell 1 _ rfl, b2.cell 2 _ rfl, b2.cell 3 _ rfl, b2.cell 4 _ rfl, b2.cell 5 _ rfl⟩ (fun hHeld => ?_)
        clear hK K
        (try simp only [List.getElem_toArray, List.getElem_cons_succ, List.getElem_cons_zero, Act.put, List.setIfInBounds_toArray, List.set_cons_zero, List.set_cons_succ])
        refine wpAnyH_ready (rs := [7]) (by kernel_rfl) (by simp) (AllReadyH.cons (o := _) rfl (fun K hK => ?_) AllReadyH.nil)
        go_simp
        go_at_call 27
        refine (pscale_v p9.rq p10.rq p11.rq (by omega) (by omega)).mono ?_
        rintro e y15 ⟨s12, A12, n12, c12, D12, m12, e12, s13, A13, n13, c13, D13, m13, e13, rfl, p12, p13, hb9⟩
        replace f0 := f0.below hb9
        replace f1 := f1.below hb9
        replace f2 := f2.below hb9
        replace f3 := f3.below hb9
        replace f4 := f4.below hb9
        replace f5 := f5.below hb9
        replace p9 := p9.below hb9
        replace p10 := p10.below hb9
        replace p11 := p11.below hb9
        replace b0 := b0.below hb9
        replace b1 := b1.below hb9
        replace b2 := b2.below hb9
        replace b3 := b3.below hb9
        replace hT := hT.keep hb9 hlt
        replace hlt := Nat.lt_of_lt_of_le hlt hb9.size
        replace H0 := H0.trans (hb9.mono H0.size)
        clear hb9
        clear p9
        clear p10
        clear p11
        go_wp2_with fail
        refine hK.out _ _ ⟨b0.cell 0 _ rfl, b0.cell 1 _ rfl, b0.cell 2 _ rfl, b0.cell 3 _ rfl, b0.cell 4 _ rfl, b0.cell 5 _ rfl, b1.cell 0 _ rfl, b1.cell 1 _ rfl, b1.cell 2 _ rfl, b1.cell 3 _ rfl, b1.cell 4 _ rfl, b1.cell 5 _ rfl, b2.cell 0 _ rfl, b2.cell 1 _ rfl, b2.cell 2 _ rfl, b2.cell 3 _ rfl, b2.cell 4 _ rfl, b2.cell 5 _ rfl⟩ (fun hHeld => ?_)
        clear hK K
        (try simp only [List.getElem_toArray, List.getElem_cons_succ, List.getElem_cons_zero, Act.put, List.setIfInBounds_toArray, List.set_cons_zero, List.set_cons_succ])
        refine wpAnyH_ready (rs := [8]) (by kernel_rfl) (by simp) (AllReadyH.cons (o := _) rfl (fun K hK => ?_) AllReadyH.nil)
        go_simp
        go_at_call 22
        refine (padd_v f0.rq f1.rq p12.rq p13.rq (by omega) (by omega)).mono ?_
        rintro e y16 ⟨s6, A6, n6, c6, D6, m6, e6, s7, A7, n7, c7, D7, m7, e7, rfl, f6, f7, hb9⟩
        replace f0 := f0.below hb9
        replace f1 := f1.below hb9
        replace f2 := f2.below hb9
        replace f3 := f3.below hb9
        replace f4 := f4.below hb9
        replace f5 := f5.below hb9
        replace p12 := p12.below hb9
        replace p13 := p13.below hb9
        replace b0 := b0.below hb9
        replace b1 := b1.below hb9
        replace b2 := b2.below hb9
        replace b3 := b3.below hb9
        replace hT := hT.keep hb9 hlt
        replace hlt := Nat.lt_of_lt_of_le hlt hb9.size
        replace H0 := H0.trans (hb9.mono H0.size)
        clear hb9
        clear p12
        clear p13
        go_wp2_with fail
        refine hK.out _ _ ⟨b0.cell 0 _ rfl, b0.cell 1 _ rfl, b0.cell 2 _ rfl, b0.cell 3 _ rfl, b0.cell 4 _ rfl, b0.cell 5 _ rfl, b1.cell 0 _ rfl, b1.cell 1 _ rfl, b1.cell 2 _ rfl, b1.cell 3 _ rfl, b1.cell 4 _ rfl, b1.cell 5 _ rfl, b2.cell 0 _ rfl, b2.cell 1 _ rfl, b2.cell 2 _ rfl, b2.cell 3 _ rfl, b2.cell 4 _ rfl, b2.cell 5 _ rfl⟩ (fun hHeld => ?_)
        clear hK K
        (try simp only [List.getElem_toArray, List.getElem_cons_succ, List.getElem_cons_zero, Act.put, List.setIfInBounds_toArray, List.set_cons_zero, List.set_cons_succ])
        have cb30 := b3.cell 0 _ rfl
        have yb30 := b3.frozen 0
        have cb31 := b3.cell 1 _ rfl
        have yb31 := b3.frozen 1
        have cb32 := b3.cell 2 _ rfl
        have yb32 := b3.frozen 2
        have cb33 := b3.cell 3 _ rfl
        have yb33 := b3.frozen 3
        have cb34 := b3.cell 4 _ rfl
        have yb34 := b3.frozen 4
        have cb35 := b3.cell 5 _ rfl
        have yb35 := b3.frozen 5
        refine wpAnyH_ready (rs := [10]) (by kernel_rfl) (by simp) (AllReadyH.cons (o := _) rfl (fun K hK => ?_) AllReadyH.nil)
        go_simp
        clear cb30 yb30 cb31 yb31 cb32 yb32 cb33 yb33 cb34 yb34 cb35 yb35
        have hg := only_store6 y16 (y11.heap.size) (.bool s6) (.slice A6 n6 c6) (.slice D6 m6 e6) (.bool s7) (.slice A7 n7 c7) (.slice D7 m7 e7)
        have hB := b3.stored6 (.bool s6) (.slice A6 n6 c6) (.slice D6 m6 e6) (.bool s7) (.slice A7 n7 c7) (.slice D7 m7 e7)
        generalize hX : ((((((y16.setCell ⟨y11.heap.size, 0, none⟩ (.bool s6)).setCell ⟨y11.heap.size, 1, none⟩ (.slice A6 n6 c6)).setCell ⟨y11.heap.size, 2, none⟩ (.slice D6 m6 e6)).setCell ⟨y11.heap.size, 3, none⟩ (.bool s7)).setCell ⟨y11.heap.size, 4, none⟩ (.slice A7 n7 c7)).setCell ⟨y11.heap.size, 5, none⟩ (.slice D7 m7 e7)) = X17 at hg hB ⊢
        clear hX
        replace f0 := f0.kept b3 (by simp [notInt]) hg
        replace f1 := f1.kept b3 (by simp [notInt]) hg
        replace f2 := f2.kept b3 (by simp [notInt]) hg
        replace f3 := f3.kept b3 (by simp [notInt]) hg
        replace f4 := f4.kept b3 (by simp [notInt]) hg
        replace f5 := f5.kept b3 (by simp [notInt]) hg
        replace f6 := f6.kept b3 (by simp [notInt]) hg
        replace f7 := f7.kept b3 (by simp [notInt]) hg
        replace b0 := b0.other hg (by omega)
        replace b1 := b1.other hg (by omega)
        replace b2 := b2.other hg (by omega)
        replace b3 := hB
        replace H0 := below_only H0 hg (by omega) H0.size
        have hBs := below_only (Below.refl (w.heap.size + 1) y16) hg (by omega) hlt
        replace hT := hT.keep hBs (Nat.lt_succ_self _)
        replace hlt := Nat.lt_of_lt_of_le hlt hg.size
        clear hBs
        clear hg hB
        refine hK.out _ _ ⟨b0.cell 0 _ rfl, b0.cell 1 _ rfl, b0.cell 2 _ rfl, b0.cell 3 _ rfl, b0.cell 4 _ rfl, b0.cell 5 _ rfl, b1.cell 0 _ rfl, b1.cell 1 _ rfl, b1.cell 2 _ rfl, b1.cell 3 _ rfl, b1.cell 4 _ rfl, b1.cell 5 _ rfl, b2.cell 0 _ rfl, b2.cell 1 _ rfl, b2.cell 2 _ rfl, b2.cell 3 _ rfl, b2.cell 4 _ rfl, b2.cell 5 _ rfl⟩ (fun hHeld => ?_)
        clear hK K
        (try simp only [List.getElem_toArray, List.getElem_cons_succ, List.getElem_cons_zero, Act.put, List.setIfInBounds_toArray, List.set_cons_zero, List.set_cons_succ])
        refine wpAnyH_done (by kernel_rfl) ?_ _
        refine NoPanic.normal ?_
        go_wp2_with fail
        go_meet
        exact ⟨_, t, s6, A6, n6, c6, D6, m6, e6, s7, A7, n7, c7, D7, m7, e7, rfl, b3, f6.more (by omega), f7.more (by omega), f0, f1, f2, f3, f4, f5, b0, b1, b2, H0⟩
    · have lb0_11 := b0.lt
      have lb1_11 := b1.lt
      have lb2_11 := b2.lt
      go_simp
      obtain ⟨y11, hV, b3, hb9, szy11⟩ := boxes1 v10 #[.bool false, .slice none 0 0, .slice none 0 0, .bool false, .slice none 0 0, .slice none 0 0] 29
      rw [hV]
      clear hV
      replace f0 := f0.below hb9
      replace f1 := f1.below hb9
      replace f2 := f2.below hb9
      replace f3 := f3.below hb9
      replace f4 := f4.below hb9
      replace f5 := f5.below hb9
      replace b0 := b0.below hb9
      replace b1 := b1.below hb9
      replace b2 := b2.below hb9
      replace hT := hT.keep hb9 hlt
      replace hlt := Nat.lt_of_lt_of_le hlt hb9.size
      replace H0 := H0.trans (hb9.mono H0.size)
      clear hb9
      refine hK.out _ _ ⟨b0.cell 0 _ rfl, b0.cell 1 _ rfl, b0.cell 2 _ rfl, b0.cell 3 _ rfl, b0.cell 4 _ rfl, b0.cell 5 _ rfl, b1.cell 0 _ rfl, b1.cell 1 _ rfl, b1.cell 2 _ rfl, b1.cell 3 _ rfl, b1.cell 4 _ rfl, b1.cell 5 _ rfl, b2.cell 0 _ rfl, b2.cell 1 _ rfl, b2.cell 2 _ rfl, b2.cell 3 _ rfl, b2.cell 4 _ rfl, b2.cell 5 _ rfl⟩ (fun hHeld => ?_)
      clear hK K
      (try simp only [List.getElem_toArray, List.getElem_cons_succ, List.getElem_cons_zero, Act.put, List.setIfInBounds_toArray, List.set_cons_zero, List.set_cons_succ])
      refine wpAnyH_ready (rs := [2]) (by kernel_rfl) (by simp) (AllReadyH.cons (o := _) rfl (fun K hK => ?_) AllReadyH.nil)
      go_simp
      go_at_call 38
      refine (tq_v hT hlt).mono ?_
      rintro e y12 ⟨t, s8, A8, n8, c8, D8, m8, e8, rfl, p8, hT', hg⟩
      replace f0 := f0.tape hT hg
      replace f1 := f1.tape hT hg
      replace f2 := f2.tape hT hg
      replace f3 := f3.tape hT hg
      replace f4 := f4.tape hT hg
      replace f5 := f5.tape hT hg
      replace b0 := b0.other hg (by omega)
      replace b1 := b1.other hg (by omega)
      replace b2 := b2.other hg (by omega)
      replace b3 := b3.other hg (by omega)
      replace hlt := Nat.lt_of_lt_of_le hlt hg.size
      replace H0 := H0.grown hg H0.size (by rintro k hk; injection hk with hk; omega)
      clear hT
      have hT := hT'
      clear hT' hg
      go_wp2_with fail
      refine hK.out _ _ ⟨b0.cell 0 _ rfl, b0.cell 1 _ rfl, b0.cell 2 _ rfl, b0.cell 3 _ rfl, b0.cell 4 _ rfl, b0.cell 5 _ rfl, b1.cell 0 _ rfl, b1.cell 1 _ rfl, b1.cell 2 _ rfl, b1.cell 3 _ rfl, b1.cell 4 _ rfl, b1.cell 5 _ rfl, b2.cell 0 _ rfl, b2.cell 1 _ rfl, b2.cell 2 _ rfl, b2.cell 3 _ rfl, b2.cell 4 _ rfl, b2.cell 5 _ rfl⟩ (fun hHeld => ?_)
      clear hK K
      (try simp only [List.getElem_toArray, List.getElem_cons_succ, List.getElem_cons_zero, Act.put, List.setIfInBounds_toArray, List.set_cons_zero, List.set_cons_succ])
      refine wpAnyH_ready (rs := [3]) (by kernel_rfl) (by simp) (AllReadyH.cons (o := _) rfl (fun K hK => ?_) AllReadyH.nil)
      go_simp
      go_at_call 30
      refine (toq_v p8 (by omega)).mono ?_
      rintro e y13 ⟨s9, A9, n9, c9, D9, m9, e9, rfl, p9, hb9⟩
      replace f0 := f0.below hb9
      replace f1 := f1.below hb9
      replace f2 := f2.below hb9
      replace f3 := f3.below hb9
      replace f4 := f4.below hb9
      replace f5 := f5.below hb9
      replace p8 := p8.below hb9
      replace b0 := b0.below hb9
      replace b1 := b1.below hb9
      replace b2 := b2.below hb9
      replace b3 := b3.below hb9
      replace hT := hT.keep hb9 hlt
      replace hlt := Nat.lt_of_lt_of_le hlt hb9.size
      replace H0 := H0.trans (hb9.mono H0.size)
      clear hb9
      clear p8
      go_wp2_with fail
      refine hK.out _ _ ⟨b0.cell 0 _ rfl, b0.cell 1 _ rfl, b0.cell 2 _ rfl, b0.cell 3 _ rfl, b0.cell 4 _ rfl, b0.cell 5 _ rfl, b1.cell 0 _ rfl, b1.cell 1 _ rfl, b1.cell 2 _ rfl, b1.cell 3 _ rfl, b1.cell 4 _ rfl, b1.cell 5 _ rfl, b2.cell 0 _ rfl, b2.cell 1 _ rfl, b2.cell 2 _ rfl, b2.cell 3 _ rfl, b2.cell 4 _ rfl, b2.cell 5 _ rfl⟩ (fun hHeld => ?_)
      clear hK K
      (try simp only [List.getElem_toArray, List.getElem_cons_succ, List.getElem_cons_zero, Act.put, List.setIfInBounds_toArray, List.set_cons_zero, List.set_cons_succ])
      refine wpAnyH_ready (rs := [6]) (by kernel_rfl) (by simp) (AllReadyH.cons (o := _) rfl (fun K hK => ?_) AllReadyH.nil)
      go_simp
      go_at_call 25
      refine (psub_v f2.rq f3.rq f0.rq f1.rq (by omega) (by omega)).mono ?_
      rintro e y14 ⟨s10, A10, n10, c10, D10, m10, e10, s11, A11, n11, c11, D11, m11, e11, rfl, p10, p11, hb9⟩
      replace f0 := f0.below hb9
      replace f1 := f1.below hb9
      replace f2 := f2.below hb9
      replace f3 := f3.below hb9
      replace f4 := f4.below hb9
      replace f5 := f5.below hb9
      replace p9 := p9.below hb9
      replace b0 := b0.below hb9
      replace b1 := b1.below hb9
      replace b2 := b2.below hb9
      replace b3 := b3.below hb9
      replace hT := hT.keep hb9 hlt
      replace hlt := Nat.lt_of_lt_of_le hlt hb9.size
      replace H0 := H0.trans (hb9.mono H0.size)
      clear hb9
      go_wp2_with fail
      refine hK.out _ _ ⟨b0.cell 0 _ rfl, b0.cell 1 _ rfl, b0.cell 2 _ rfl, b0.cell 3 _ rfl, b0.cell 4 _ rfl, b0.cell 5 _ rfl, b1.cell 0 _ rfl, b1.cell 1 _ rfl, b1.cell 2 _ rfl, b1.cell 3 _ rfl, b1.cell 4 _ rfl, b1.cell 5 _ rfl, b2.cell 0 _ rfl, b2.cell 1 _ rfl, b2.cell 2 _ rfl, b2.cell 3 _ rfl, b2.cell 4 _ rfl, b2.cell 5 _ rfl⟩ (fun hHeld => ?_)
      clear hK K
      (try simp only [List.getElem_toArray, List.getElem_cons_succ, List.getElem_cons_zero, Act.put, List.setIfInBounds_toArray, List.set_cons_zero, List.set_cons_succ])
      refine wpAnyH_ready (rs := [7]) (by kernel_rfl) (by simp) (AllReadyH.cons (o := _) rfl (fun K hK => ?_) AllReadyH.nil)
      go_simp
      go_at_call 27
      refine (pscale_v p9.rq p10.rq p11.rq (by omega) (by omega)).mono ?_
      rintro e y15 ⟨s12, A12, n12, c12, D12, m12, e12, s13, A13, n13, c13, D13, m13, e13, rfl, p12, p13, hb9⟩
      replace f0 := f0.below hb9
      replace f1 := f1.below hb9
      replace f2 := f2.below hb9
      replace f3 := f3.below hb9
      replace f4 := f4.below hb9
      replace f5 := f5.below hb9
      replace p9 := p9.below hb9
      replace p10 := p10.below hb9
      replace p11 := p11.below hb9
      replace b0 := b0.below hb9
      replace b1 := b1.below hb9
      replace b2 := b2.below hb9
      replace b3 := b3.below hb9
      replace hT := hT.keep hb9 hlt
      replace hlt := Nat.lt_of_lt_of_le hlt hb9.size
      replace H0 := H0.trans (hb9.mono H0.size)
      clear hb9
      clear p9
      clear p10
      clear p11
      go_wp2_with fail
      refine hK.out _ _ ⟨b0.cell 0 _ rfl, b0.cell 1 _ rfl, b0.cell 2 _ rfl, b0.cell 3 _ rfl, b0.cell 4 _ rfl, b0.cell 5 _ rfl, b1.cell 0 _ rfl, b1.cell 1 _ rfl, b1.cell 2 _ rfl, b1.cell 3 _ rfl, b1.cell 4 _ rfl, b1.cell 5 _ rfl, b2.cell 0 _ rfl, b2.cell 1 _ rfl, b2.cell 2 _ rfl, b2.cell 3 _ rfl, b2.cell 4 _ rfl, b2.cell 5 _ rfl⟩ (fun hHeld => ?_)
      clear hK K
      (try simp only [List.getElem_toArray, List.getElem_cons_succ, List.getElem_cons_zero, Act.put, List.setIfInBounds_toArray, List.set_cons_zero, List.set_cons_succ])
      refine wpAnyH_ready (rs := [8]) (by kernel_rfl) (by simp) (AllReadyH.cons (o := _) rfl (fun K hK => ?_) AllReadyH.nil)
      go_simp
      go_at_call 22
      refine (padd_v f0.rq f1.rq p12.rq p13.rq (by omega) (by omega)).mono ?_
      rintro e y16 ⟨s6, A6, n6, c6, D6, m6, e6, s7, A7, n7, c7, D7, m7, e7, rfl, f6, f7, hb9⟩
      replace f0 := f0.below hb9
      replace f1 := f1.below hb9
      replace f2 := f2.below hb9
      replace f3 := f3.below hb9
      replace f4 := f4.below hb9
      replace f5 := f5.below hb9
      replace p12 := p12.below hb9
      replace p13 := p13.below hb9
      replace b0 := b0.below hb9
      replace b1 := b1.below hb9
      replace b2 := b2.below hb9
      replace b3 := b3.below hb9
      replace hT := hT.keep hb9 hlt
      replace hlt := Nat.lt_of_lt_of_le hlt hb9.size
      replace H0 := H0.trans (hb9.mono H0.size)
      clear hb9
      clear p12
      clear p13
      go_wp2_with fail
      refine hK.out _ _ ⟨b0.cell 0 _ rfl, b0.cell 1 _ rfl, b0.cell 2 _ rfl, b0.cell 3 _ rfl, b0.cell 4 _ rfl, b0.cell 5 _ rfl, b1.cell 0 _ rfl, b1.cell 1 _ rfl, b1.cell 2 _ rfl, b1.cell 3 _ rfl, b1.cell 4 _ rfl, b1.cell 5 _ rfl, b2.cell 0 _ rfl, b2.cell 1 _ rfl, b2.cell 2 _ rfl, b2.cell 3 _ rfl, b2.cell 4 _ rfl, b2.cell 5 _ rfl⟩ (fun hHeld => ?_)
      clear hK K
      (try simp only [List.getElem_toArray, List.getElem_cons_succ, List.getElem_cons_zero, Act.put, List.setIfInBounds_toArray, List.set_cons_zero, List.set_cons_succ])
      have cb30 := b3.cell 0 _ rfl
      have yb30 := b3.frozen 0
      have cb31 := b3.cell 1 _ rfl
      have yb31 := b3.frozen 1
      have cb32 := b3.cell 2 _ rfl
      have yb32 := b3.frozen 2
      have cb33 := b3.cell 3 _ rfl
      have yb33 := b3.frozen 3
      have cb34 := b3.cell 4 _ rfl
      have yb34 := b3.frozen 4
      have cb35 := b3.cell 5 _ rfl
      have yb35 := b3.frozen 5
      refine wpAnyH_ready (rs := [10]) (by kernel_rfl) (by simp) (AllReadyH.cons (o := _) rfl (fun K hK => ?_) AllReadyH.nil)
      go_simp
      clear cb30 yb30 cb31 yb31 cb32 yb32 cb33 yb33 cb34 yb34 cb35 yb35
      have hg := only_store6 y16 (v10.heap.size) (.bool s6) (.slice A6 n6 c6) (.slice D6 m6 e6) (.bool s7) (.slice A7 n7 c7) (.slice D7 m7 e7)
      have hB := b3.stored6 (.bool s6) (.slice A6 n6 c6) (.slice D6 m6 e6) (.bool s7) (.slice A7 n7 c7) (.slice D7 m7 e7)
      generalize hX : ((((((y16.setCell ⟨v10.heap.size, 0, none⟩ (.bool s6)).setCell ⟨v10.heap.size, 1, none⟩ (.slice A6 n6 c6)).setCell ⟨v10.heap.size, 2, none⟩ (.slice D6 m6 e6)).setCell ⟨v10.heap.size, 3, none⟩ (.bool s7)).setCell ⟨v10.heap.size, 4, none⟩ (.slice A7 n7 c7)).setCell ⟨v10.heap.size, 5, none⟩ (.slice D7 m7 e7)) = X17 at hg hB ⊢
      clear hX
      replace f0 := f0.kept b3 (by simp [notInt]) hg
      replace f1 := f1.kept b3 (by simp [notInt]) hg
      replace f2 := f2.kept b3 (by simp [notInt]) hg
      replace f3 := f3.kept b3 (by simp [notInt]) hg
      replace f4 := f4.kept b3 (by simp [notInt]) hg
      replace f5 := f5.kept b3 (by simp [notInt]) hg
      replace f6 := f6.kept b3 (by simp [notInt]) hg
      replace f7 := f7.kept b3 (by simp [notInt]) hg
      replace b0 := b0.other hg (by omega)
      replace b1 := b1.other hg (by omega)
      replace b2 := b2.other hg (by omega)
      replace b3 := hB
      replace H0 := below_only H0 hg (by omega) H0.size
      have hBs := below_only (Below.refl (w.heap.size + 1) y16) hg (by omega) hlt
      replace hT := hT.keep hBs (Nat.lt_succ_self _)
      replace hlt := Nat.lt_of_lt_of_le hlt hg.size
      clear hBs
      clear hg hB
      refine hK.out _ _ ⟨b0.cell 0 _ rfl, b0.cell 1 _ rfl, b0.cell 2 _ rfl, b0.cell 3 _ rfl, b0.cell 4 _ rfl, b0.cell 5 _ rfl, b1.cell 0 _ rfl, b1.cell 1 _ rfl, b1.cell 2 _ rfl, b1.cell 3 _ rfl, b1.cell 4 _ rfl, b1.cell 5 _ rfl, b2.cell 0 _ rfl, b2.cell 1 _ rfl, b2.cell 2 _ rfl, b2.cell 3 _ rfl, b2.cell 4 _ rfl, b2.cell 5 _ rfl⟩ (fun hHeld => ?_)
      clear hK K
      (try simp only [List.getElem_toArray, List.getElem_cons_succ, List.getElem_cons_zero, Act.put, List.setIfInBounds_toArray, List.set_cons_zero, List.set_cons_succ])
      refine wpAnyH_done (by kernel_rfl) ?_ _
      refine NoPanic.normal ?_
      go_wp2_with fail
      go_meet
      exact ⟨_, t, s6, A6, n6, c6, D6, m6, e6, s7, A7, n7, c7, D7, m7, e7, rfl, b3, f6.more (by omega), f7.more (by omega), f0, f1, f2, f3, f4, f5, b0, b1, b2, H0⟩
  case rest =>
    clear f0 f1 f2 f3 f4 f5 b0 b1 b2 H0 hT hlt
    obtain ⟨g, t, s6, A6, n6, c6, D6, m6, e6, s7, A7, n7, c7, D7, m7, e7, rfl, b3, f6, f7, f0, f1, f2, f3, f4, f5, b0, b1, b2, H0⟩ := hcut
    have E1 := Lib.hid ((ori_cyc q0 q1 q2 q3 q4 q5).trans HN.out)
    have E2 := Lib.hid ((ori_flip q0 q1 q2 q3 q4 q5).trans (congrArg (- ·) HN.out))
    have E3 := Lib.hid (ori_line q0 q1 q2 q3 t)
    have E4 := Lib.hid (ori_same q0 q1 q4 q5)
    have hc : kn = 1 ∨ kn = 0 ∨ kn = -1 := by rw [← HN.out]; unfold oriQ; rcases rsg_cases ((q2 - q0) * (q5 - q1) - (q3 - q1) * (q4 - q0)) with ⟨e, _⟩ | ⟨e, _⟩ | ⟨e, _⟩ <;> rw [e] <;> simp
    clear HN
    rcases hc with rfl | rfl | rfl
    · have HE2 : Hid (oriQ q4 q5 q2 q3 q0 q1 = -1) := Lib.hid E2.out
      go_wp2_with fail
      refine (HK.out _ H0).mono ?_
      rintro e w300 ⟨rfl, hb⟩
      replace f0 := f0.below hb
      replace f1 := f1.below hb
      replace f2 := f2.below hb
      replace f3 := f3.below hb
      replace f4 := f4.below hb
      replace f5 := f5.below hb
      replace f6 := f6.below hb
      replace f7 := f7.below hb
      replace b0 := b0.below hb
      replace b1 := b1.below hb
      replace b2 := b2.below hb
      replace b3 := b3.below hb
      replace H0 := H0.trans (hb.mono H0.size)
      clear hb
      have cb00 := b0.cell 0 _ rfl
      have cb01 := b0.cell 1 _ rfl
      have cb02 := b0.cell 2 _ rfl
      have cb03 := b0.cell 3 _ rfl
      have cb04 := b0.cell 4 _ rfl
      have cb05 := b0.cell 5 _ rfl
      have cb10 := b1.cell 0 _ rfl
      have cb11 := b1.cell 1 _ rfl
      have cb12 := b1.cell 2 _ rfl
      have cb13 := b1.cell 3 _ rfl
      have cb14 := b1.cell 4 _ rfl
      have cb15 := b1.cell 5 _ rfl
      have cb20 := b2.cell 0 _ rfl
      have cb21 := b2.cell 1 _ rfl
      have cb22 := b2.cell 2 _ rfl
      have cb23 := b2.cell 3 _ rfl
      have cb24 := b2.cell 4 _ rfl
      have cb25 := b2.cell 5 _ rfl
      have cb30 := b3.cell 0 _ rfl
      have cb31 := b3.cell 1 _ rfl
      have cb32 := b3.cell 2 _ rfl
      have cb33 := b3.cell 3 _ rfl
      have cb34 := b3.cell 4 _ rfl
      have cb35 := b3.cell 5 _ rfl
      go_wp2_with fail
      clear cb00 cb01 cb02 cb03 cb04 cb05 cb10 cb11 cb12 cb13 cb14 cb15 cb20 cb21 cb22 cb23 cb24 cb25 cb30 cb31 cb32 cb33 cb34 cb35
      refine (porient_v f2.rq f3.rq f4.rq f5.rq f0.rq f1.rq (by omega) (by omega) (by omega) E1.out).mono ?_
      rintro e w301 ⟨rfl, hb⟩
      replace f0 := f0.below hb
      replace f1 := f1.below hb
      replace f2 := f2.below hb
      replace f3 := f3.below hb
      replace f4 := f4.below hb
      replace f5 := f5.below hb
      replace f6 := f6.below hb
      replace f7 := f7.below hb
      replace b0 := b0.below hb
      replace b1 := b1.below hb
      replace b2 := b2.below hb
      replace b3 := b3.below hb
      replace H0 := H0.trans (hb.mono H0.size)
      clear hb
      have cb00 := b0.cell 0 _ rfl
      have cb01 := b0.cell 1 _ rfl
      have cb02 := b0.cell 2 _ rfl
      have cb03 := b0.cell 3 _ rfl
      have cb04 := b0.cell 4 _ rfl
      have cb05 := b0.cell 5 _ rfl
      have cb10 := b1.cell 0 _ rfl
      have cb11 := b1.cell 1 _ rfl
      have cb12 := b1.cell 2 _ rfl
      have cb13 := b1.cell 3 _ rfl
      have cb14 := b1.cell 4 _ rfl
      have cb15 := b1.cell 5 _ rfl
      have cb20 := b2.cell 0 _ rfl
      have cb21 := b2.cell 1 _ rfl
      have cb22 := b2.cell 2 _ rfl
      have cb23 := b2.cell 3 _ rfl
      have cb24 := b2.cell 4 _ rfl
      have cb25 := b2.cell 5 _ rfl
      have cb30 := b3.cell 0 _ rfl
      have cb31 := b3.cell 1 _ rfl
      have cb32 := b3.cell 2 _ rfl
      have cb33 := b3.cell 3 _ rfl
      have cb34 := b3.cell 4 _ rfl
      have cb35 := b3.cell 5 _ rfl
      go_wp2_with fail
      clear cb00 cb01 cb02 cb03 cb04 cb05 cb10 cb11 cb12 cb13 cb14 cb15 cb20 cb21 cb22 cb23 cb24 cb25 cb30 cb31 cb32 cb33 cb34 cb35
      refine (porient_v f4.rq f5.rq f2.rq f3.rq f0.rq f1.rq (by omega) (by omega) (by omega) HE2.out).mono ?_
      rintro e w302 ⟨rfl, hb⟩
      replace f0 := f0.below hb
      replace f1 := f1.below hb
      replace f2 := f2.below hb
      replace f3 := f3.below hb
      replace f4 := f4.below hb
      replace f5 := f5.below hb
      replace f6 := f6.below hb
      replace f7 := f7.below hb
      replace b0 := b0.below hb
      replace b1 := b1.below hb
      replace b2 := b2.below hb
      replace b3 := b3.below hb
      replace H0 := H0.trans (hb.mono H0.size)
      clear hb
      have cb00 := b0.cell 0 _ rfl
      have cb01 := b0.cell 1 _ rfl
      have cb02 := b0.cell 2 _ rfl
      have cb03 := b0.cell 3 _ rfl
      have cb04 := b0.cell 4 _ rfl
      have cb05 := b0.cell 5 _ rfl
      have cb10 := b1.cell 0 _ rfl
      have cb11 := b1.cell 1 _ rfl
      have cb12 := b1.cell 2 _ rfl
      have cb13 := b1.cell 3 _ rfl
      have cb14 := b1.cell 4 _ rfl
      have cb15 := b1.cell 5 _ rfl
      have cb20 := b2.cell 0 _ rfl
      have cb21 := b2.cell 1 _ rfl
      have cb22 := b2.cell 2 _ rfl
      have cb23 := b2.cell 3 _ rfl
      have cb24 := b2.cell 4 _ rfl
      have cb25 := b2.cell 5 _ rfl
      have cb30 := b3.cell 0 _ rfl
      have cb31 := b3.cell 1 _ rfl
      have cb32 := b3.cell 2 _ rfl
      have cb33 := b3.cell 3 _ rfl
      have cb34 := b3.cell 4 _ rfl
      have cb35 := b3.cell 5 _ rfl
      go_wp2_with fail
      clear cb00 cb01 cb02 cb03 cb04 cb05 cb10 cb11 cb12 cb13 cb14 cb15 cb20 cb21 cb22 cb23 cb24 cb25 cb30 cb31 cb32 cb33 cb34 cb35
      refine (porient_v f0.rq f1.rq f2.rq f3.rq f6.rq f7.rq (by omega) (by omega) (by omega) E3.out).mono ?_
      rintro e w303 ⟨rfl, hb⟩
      replace f0 := f0.below hb
      replace f1 := f1.below hb
      replace f2 := f2.below hb
      replace f3 := f3.below hb
      replace f4 := f4.below hb
      replace f5 := f5.below hb
      replace f6 := f6.below hb
      replace f7 := f7.below hb
      replace b0 := b0.below hb
      replace b1 := b1.below hb
      replace b2 := b2.below hb
      replace b3 := b3.below hb
      replace H0 := H0.trans (hb.mono H0.size)
      clear hb
      have cb00 := b0.cell 0 _ rfl
      have cb01 := b0.cell 1 _ rfl
      have cb02 := b0.cell 2 _ rfl
      have cb03 := b0.cell 3 _ rfl
      have cb04 := b0.cell 4 _ rfl
      have cb05 := b0.cell 5 _ rfl
      have cb10 := b1.cell 0 _ rfl
      have cb11 := b1.cell 1 _ rfl
      have cb12 := b1.cell 2 _ rfl
      have cb13 := b1.cell 3 _ rfl
      have cb14 := b1.cell 4 _ rfl
      have cb15 := b1.cell 5 _ rfl
      have cb20 := b2.cell 0 _ rfl
      have cb21 := b2.cell 1 _ rfl
      have cb22 := b2.cell 2 _ rfl
      have cb23 := b2.cell 3 _ rfl
      have cb24 := b2.cell 4 _ rfl
      have cb25 := b2.cell 5 _ rfl
      have cb30 := b3.cell 0 _ rfl
      have cb31 := b3.cell 1 _ rfl
      have cb32 := b3.cell 2 _ rfl
      have cb33 := b3.cell 3 _ rfl
      have cb34 := b3.cell 4 _ rfl
      have cb35 := b3.cell 5 _ rfl
      go_wp2_with fail
      clear cb00 cb01 cb02 cb03 cb04 cb05 cb10 cb11 cb12 cb13 cb14 cb15 cb20 cb21 cb22 cb23 cb24 cb25 cb30 cb31 cb32 cb33 cb34 cb35
      refine (porient_v f0.rq f1.rq f0.rq f1.rq f4.rq f5.rq (by omega) (by omega) (by omega) E4.out).mono ?_
      rintro e w304 ⟨rfl, hb⟩
      replace f0 := f0.below hb
      replace f1 := f1.below hb
      replace f2 := f2.below hb
      replace f3 := f3.below hb
      replace f4 := f4.below hb
      replace f5 := f5.below hb
      replace f6 := f6.below hb
      replace f7 := f7.below hb
      replace b0 := b0.below hb
      replace b1 := b1.below hb
      replace b2 := b2.below hb
      replace b3 := b3.below hb
      replace H0 := H0.trans (hb.mono H0.size)
      clear hb
      go_wp2_with fail
      go_returns
      exact ⟨rfl, H0⟩
    · have HE2 : Hid (oriQ q4 q5 q2 q3 q0 q1 = 0) := Lib.hid E2.out
      go_wp2_with fail
      refine (HK.out _ H0).mono ?_
      rintro e w300 ⟨rfl, hb⟩
      replace f0 := f0.below hb
      replace f1 := f1.below hb
      replace f2 := f2.below hb
      replace f3 := f3.below hb
      replace f4 := f4.below hb
      replace f5 := f5.below hb
      replace f6 := f6.below hb
      replace f7 := f7.below hb
      replace b0 := b0.below hb
      replace b1 := b1.below hb
      replace b2 := b2.below hb
      replace b3 := b3.below hb
      replace H0 := H0.trans (hb.mono H0.size)
      clear hb
      have cb00 := b0.cell 0 _ rfl
      have cb01 := b0.cell 1 _ rfl
      have cb02 := b0.cell 2 _ rfl
      have cb03 := b0.cell 3 _ rfl
      have cb04 := b0.cell 4 _ rfl
      have cb05 := b0.cell 5 _ rfl
      have cb10 := b1.cell 0 _ rfl
      have cb11 := b1.cell 1 _ rfl
      have cb12 := b1.cell 2 _ rfl
      have cb13 := b1.cell 3 _ rfl
      have cb14 := b1.cell 4 _ rfl
      have cb15 := b1.cell 5 _ rfl
      have cb20 := b2.cell 0 _ rfl
      have cb21 := b2.cell 1 _ rfl
      have cb22 := b2.cell 2 _ rfl
      have cb23 := b2.cell 3 _ rfl
      have cb24 := b2.cell 4 _ rfl
      have cb25 := b2.cell 5 _ rfl
      have cb30 := b3.cell 0 _ rfl
      have cb31 := b3.cell 1 _ rfl
      have cb32 := b3.cell 2 _ rfl
      have cb33 := b3.cell 3 _ rfl
      have cb34 := b3.cell 4 _ rfl
      have cb35 := b3.cell 5 _ rfl
      go_wp2_with fail
      clear cb00 cb01 cb02 cb03 cb04 cb05 cb10 cb11 cb12 cb13 cb14 cb15 cb20 cb21 cb22 cb23 cb24 cb25 cb30 cb31 cb32 cb33 cb34 cb35
      refine (porient_v f2.rq f3.rq f4.rq f5.rq f0.rq f1.rq (by omega) (by omega) (by omega) E1.out).mono ?_
      rintro e w301 ⟨rfl, hb⟩
      replace f0 := f0.below hb
      replace f1 := f1.below hb
      replace f2 := f2.below hb
      replace f3 := f3.below hb
      replace f4 := f4.below hb
      replace f5 := f5.below hb
      replace f6 := f6.below hb
      replace f7 := f7.below hb
      replace b0 := b0.below hb
      replace b1 := b1.below hb
      replace b2 := b2.below hb
      replace b3 := b3.below hb
      replace H0 := H0.trans (hb.mono H0.size)
      clear hb
      have cb00 := b0.cell 0 _ rfl
      have cb01 := b0.cell 1 _ rfl
      have cb02 := b0.cell 2 _ rfl
      have cb03 := b0.cell 3 _ rfl
      have cb04 := b0.cell 4 _ rfl
      have cb05 := b0.cell 5 _ rfl
      have cb10 := b1.cell 0 _ rfl
      have cb11 := b1.cell 1 _ rfl
      have cb12 := b1.cell 2 _ rfl
      have cb13 := b1.cell 3 _ rfl
      have cb14 := b1.cell 4 _ rfl
      have cb15 := b1.cell 5 _ rfl
      have cb20 := b2.cell 0 _ rfl
      have cb21 := b2.cell 1 _ rfl
      have cb22 := b2.cell 2 _ rfl
      have cb23 := b2.cell 3 _ rfl
      have cb24 := b2.cell 4 _ rfl
      have cb25 := b2.cell 5 _ rfl
      have cb30 := b3.cell 0 _ rfl
      have cb31 := b3.cell 1 _ rfl
      have cb32 := b3.cell 2 _ rfl
      have cb33 := b3.cell 3 _ rfl
      have cb34 := b3.cell 4 _ rfl
      have cb35 := b3.cell 5 _ rfl
      go_wp2_with fail
      clear cb00 cb01 cb02 cb03 cb04 cb05 cb10 cb11 cb12 cb13 cb14 cb15 cb20 cb21 cb22 cb23 cb24 cb25 cb30 cb31 cb32 cb33 cb34 cb35
      refine (porient_v f4.rq f5.rq f2.rq f3.rq f0.rq f1.rq (by omega) (by omega) (by omega) HE2.out).mono ?_
      rintro e w302 ⟨rfl, hb⟩
      replace f0 := f0.below hb
      replace f1 := f1.below hb
      replace f2 := f2.below hb
      replace f3 := f3.below hb
      replace f4 := f4.below hb
      replace f5 := f5.below hb
      replace f6 := f6.below hb
      replace f7 := f7.below hb
      replace b0 := b0.below hb
      replace b1 := b1.below hb
      replace b2 := b2.below hb
      replace b3 := b3.below hb
      replace H0 := H0.trans (hb.mono H0.size)
      clear hb
      have cb00 := b0.cell 0 _ rfl
      have cb01 := b0.cell 1 _ rfl
      have cb02 := b0.cell 2 _ rfl
      have cb03 := b0.cell 3 _ rfl
      have cb04 := b0.cell 4 _ rfl
      have cb05 := b0.cell 5 _ rfl
      have cb10 := b1.cell 0 _ rfl
      have cb11 := b1.cell 1 _ rfl
      have cb12 := b1.cell 2 _ rfl
      have cb13 := b1.cell 3 _ rfl
      have cb14 := b1.cell 4 _ rfl
      have cb15 := b1.cell 5 _ rfl
      have cb20 := b2.cell 0 _ rfl
      have cb21 := b2.cell 1 _ rfl
      have cb22 := b2.cell 2 _ rfl
      have cb23 := b2.cell 3 _ rfl
      have cb24 := b2.cell 4 _ rfl
      have cb25 := b2.cell 5 _ rfl
      have cb30 := b3.cell 0 _ rfl
      have cb31 := b3.cell 1 _ rfl
      have cb32 := b3.cell 2 _ rfl
      have cb33 := b3.cell 3 _ rfl
      have cb34 := b3.cell 4 _ rfl
      have cb35 := b3.cell 5 _ rfl
      go_wp2_with fail
      clear cb00 cb01 cb02 cb03 cb04 cb05 cb10 cb11 cb12 cb13 cb14 cb15 cb20 cb21 cb22 cb23 cb24 cb25 cb30 cb31 cb32 cb33 cb34 cb35
      refine (porient_v f0.rq f1.rq f2.rq f3.rq f6.rq f7.rq (by omega) (by omega) (by omega) E3.out).mono ?_
      rintro e w303 ⟨rfl, hb⟩
      replace f0 := f0.below hb
      replace f1 := f1.below hb
      replace f2 := f2.below hb
      replace f3 := f3.below hb
      replace f4 := f4.below hb
      replace f5 := f5.below hb
      replace f6 := f6.below hb
      replace f7 := f7.below hb
      replace b0 := b0.below hb
      replace b1 := b1.below hb
      replace b2 := b2.below hb
      replace b3 := b3.below hb
      replace H0 := H0.trans (hb.mono H0.size)
      clear hb
      have cb00 := b0.cell 0 _ rfl
      have cb01 := b0.cell 1 _ rfl
      have cb02 := b0.cell 2 _ rfl
      have cb03 := b0.cell 3 _ rfl
      have cb04 := b0.cell 4 _ rfl
      have cb05 := b0.cell 5 _ rfl
      have cb10 := b1.cell 0 _ rfl
      have cb11 := b1.cell 1 _ rfl
      have cb12 := b1.cell 2 _ rfl
      have cb13 := b1.cell 3 _ rfl
      have cb14 := b1.cell 4 _ rfl
      have cb15 := b1.cell 5 _ rfl
      have cb20 := b2.cell 0 _ rfl
      have cb21 := b2.cell 1 _ rfl
      have cb22 := b2.cell 2 _ rfl
      have cb23 := b2.cell 3 _ rfl
      have cb24 := b2.cell 4 _ rfl
      have cb25 := b2.cell 5 _ rfl
      have cb30 := b3.cell 0 _ rfl
      have cb31 := b3.cell 1 _ rfl
      have cb32 := b3.cell 2 _ rfl
      have cb33 := b3.cell 3 _ rfl
      have cb34 := b3.cell 4 _ rfl
      have cb35 := b3.cell 5 _ rfl
      go_wp2_with fail
      clear cb00 cb01 cb02 cb03 cb04 cb05 cb10 cb11 cb12 cb13 cb14 cb15 cb20 cb21 cb22 cb23 cb24 cb25 cb30 cb31 cb32 cb33 cb34 cb35
      refine (porient_v f0.rq f1.rq f0.rq f1.rq f4.rq f5.rq (by omega) (by omega) (by omega) E4.out).mono ?_
      rintro e w304 ⟨rfl, hb⟩
      replace f0 := f0.below hb
      replace f1 := f1.below hb
      replace f2 := f2.below hb
      replace f3 := f3.below hb
      replace f4 := f4.below hb
      replace f5 := f5.below hb
      replace f6 := f6.below hb
      replace f7 := f7.below hb
      replace b0 := b0.below hb
      replace b1 := b1.below hb
      replace b2 := b2.below hb
      replace b3 := b3.below hb
      replace H0 := H0.trans (hb.mono H0.size)
      clear hb
      go_wp2_with fail
      go_returns
      exact ⟨rfl, H0⟩
    · have HE2 : Hid (oriQ q4 q5 q2 q3 q0 q1 = 1) := Lib.hid E2.out
      go_wp2_with fail
      refine (HK.out _ H0).mono ?_
      rintro e w300 ⟨rfl, hb⟩
      replace f0 := f0.below hb
      replace f1 := f1.below hb
      replace f2 := f2.below hb
      replace f3 := f3.below hb
      replace f4 := f4.below hb
      replace f5 := f5.below hb
      replace f6 := f6.below hb
      replace f7 := f7.below hb
      replace b0 := b0.below hb
      replace b1 := b1.below hb
      replace b2 := b2.below hb
      replace b3 := b3.below hb
      replace H0 := H0.trans (hb.mono H0.size)
      clear hb
      have cb00 := b0.cell 0 _ rfl
      have cb01 := b0.cell 1 _ rfl
      have cb02 := b0.cell 2 _ rfl
      have cb03 := b0.cell 3 _ rfl
      have cb04 := b0.cell 4 _ rfl
      have cb05 := b0.cell 5 _ rfl
      have cb10 := b1.cell 0 _ rfl
      have cb11 := b1.cell 1 _ rfl
      have cb12 := b1.cell 2 _ rfl
      have cb13 := b1.cell 3 _ rfl
      have cb14 := b1.cell 4 _ rfl
      have cb15 := b1.cell 5 _ rfl
      have cb20 := b2.cell 0 _ rfl
      have cb21 := b2.cell 1 _ rfl
      have cb22 := b2.cell 2 _ rfl
      have cb23 := b2.cell 3 _ rfl
      have cb24 := b2.cell 4 _ rfl
      have cb25 := b2.cell 5 _ rfl
      have cb30 := b3.cell 0 _ rfl
      have cb31 := b3.cell 1 _ rfl
      have cb32 := b3.cell 2 _ rfl
      have cb33 := b3.cell 3 _ rfl
      have cb34 := b3.cell 4 _ rfl
      have cb35 := b3.cell 5 _ rfl
      go_wp2_with fail
      clear cb00 cb01 cb02 cb03 cb04 cb05 cb10 cb11 cb12 cb13 cb14 cb15 cb20 cb21 cb22 cb23 cb24 cb25 cb30 cb31 cb32 cb33 cb34 cb35
      refine (porient_v f2.rq f3.rq f4.rq f5.rq f0.rq f1.rq (by omega) (by omega) (by omega) E1.out).mono ?_
      rintro e w301 ⟨rfl, hb⟩
      replace f0 := f0.below hb
      replace f1 := f1.below hb
      replace f2 := f2.below hb
      replace f3 := f3.below hb
      replace f4 := f4.below hb
      replace f5 := f5.below hb
      replace f6 := f6.below hb
      replace f7 := f7.below hb
      replace b0 := b0.below hb
      replace b1 := b1.below hb
      replace b2 := b2.below hb
      replace b3 := b3.below hb
      replace H0 := H0.trans (hb.mono H0.size)
      clear hb
      have cb00 := b0.cell 0 _ rfl
      have cb01 := b0.cell 1 _ rfl
      have cb02 := b0.cell 2 _ rfl
      have cb03 := b0.cell 3 _ rfl
      have cb04 := b0.cell 4 _ rfl
      have cb05 := b0.cell 5 _ rfl
      have cb10 := b1.cell 0 _ rfl
      have cb11 := b1.cell 1 _ rfl
      have cb12 := b1.cell 2 _ rfl
      have cb13 := b1.cell 3 _ rfl
      have cb14 := b1.cell 4 _ rfl
      have cb15 := b1.cell 5 _ rfl
      have cb20 := b2.cell 0 _ rfl
      have cb21 := b2.cell 1 _ rfl
      have cb22 := b2.cell 2 _ rfl
      have cb23 := b2.cell 3 _ rfl
      have cb24 := b2.cell 4 _ rfl
      have cb25 := b2.cell 5 _ rfl
      have cb30 := b3.cell 0 _ rfl
      have cb31 := b3.cell 1 _ rfl
      have cb32 := b3.cell 2 _ rfl
      have cb33 := b3.cell 3 _ rfl
      have cb34 := b3.cell 4 _ rfl
      have cb35 := b3.cell 5 _ rfl
      go_wp2_with fail
      clear cb00 cb01 cb02 cb03 cb04 cb05 cb10 cb11 cb12 cb13 cb14 cb15 cb20 cb21 cb22 cb23 cb24 cb25 cb30 cb31 cb32 cb33 cb34 cb35
      refine (porient_v f4.rq f5.rq f2.rq f3.rq f0.rq f1.rq (by omega) (by omega) (by omega) HE2.out).mono ?_
      rintro e w302 ⟨rfl, hb⟩
      replace f0 := f0.below hb
      replace f1 := f1.below hb
      replace f2 := f2.below hb
      replace f3 := f3.below hb
      replace f4 := f4.below hb
      replace f5 := f5.below hb
      replace f6 := f6.below hb
      replace f7 := f7.below hb
      replace b0 := b0.below hb
      replace b1 := b1.below hb
      replace b2 := b2.below hb
      replace b3 := b3.below hb
      replace H0 := H0.trans (hb.mono H0.size)
      clear hb
      have cb00 := b0.cell 0 _ rfl
      have cb01 := b0.cell 1 _ rfl
      have cb02 := b0.cell 2 _ rfl
      have cb03 := b0.cell 3 _ rfl
      have cb04 := b0.cell 4 _ rfl
      have cb05 := b0.cell 5 _ rfl
      have cb10 := b1.cell 0 _ rfl
      have cb11 := b1.cell 1 _ rfl
      have cb12 := b1.cell 2 _ rfl
      have cb13 := b1.cell 3 _ rfl
      have cb14 := b1.cell 4 _ rfl
      have cb15 := b1.cell 5 _ rfl
      have cb20 := b2.cell 0 _ rfl
      have cb21 := b2.cell 1 _ rfl
      have cb22 := b2.cell 2 _ rfl
      have cb23 := b2.cell 3 _ rfl
      have cb24 := b2.cell 4 _ rfl
      have cb25 := b2.cell 5 _ rfl
      have cb30 := b3.cell 0 _ rfl
      have cb31 := b3.cell 1 _ rfl
      have cb32 := b3.cell 2 _ rfl
      have cb33 := b3.cell 3 _ rfl
      have cb34 := b3.cell 4 _ rfl
      have cb35 := b3.cell 5 _ rfl
      go_wp2_with fail
      clear cb00 cb01 cb02 cb03 cb04 cb05 cb10 cb11 cb12 cb13 cb14 cb15 cb20 cb21 cb22 cb23 cb24 cb25 cb30 cb31 cb32 cb33 cb34 cb35
      refine (porient_v f0.rq f1.rq f2.rq f3.rq f6.rq f7.rq (by omega) (by omega) (by omega) E3.out).mono ?_
      rintro e w303 ⟨rfl, hb⟩
      replace f0 := f0.below hb
      replace f1 := f1.below hb
      replace f2 := f2.below hb
      replace f3 := f3.below hb
      replace f4 := f4.below hb
      replace f5 := f5.below hb
      replace f6 := f6.below hb
      replace f7 := f7.below hb
      replace b0 := b0.below hb
      replace b1 := b1.below hb
      replace b2 := b2.below hb
      replace b3 := b3.below hb
      replace H0 := H0.trans (hb.mono H0.size)
      clear hb
      have cb00 := b0.cell 0 _ rfl
      have cb01 := b0.cell 1 _ rfl
      have cb02 := b0.cell 2 _ rfl
      have cb03 := b0.cell 3 _ rfl
      have cb04 := b0.cell 4 _ rfl
      have cb05 := b0.cell 5 _ rfl
      have cb10 := b1.cell 0 _ rfl
      have cb11 := b1.cell 1 _ rfl
      have cb12 := b1.cell 2 _ rfl
      have cb13 := b1.cell 3 _ rfl
      have cb14 := b1.cell 4 _ rfl
      have cb15 := b1.cell 5 _ rfl
      have cb20 := b2.cell 0 _ rfl
      have cb21 := b2.cell 1 _ rfl
      have cb22 := b2.cell 2 _ rfl
      have cb23 := b2.cell 3 _ rfl
      have cb24 := b2.cell 4 _ rfl
      have cb25 := b2.cell 5 _ rfl
      have cb30 := b3.cell 0 _ rfl
      have cb31 := b3.cell 1 _ rfl
      have cb32 := b3.cell 2 _ rfl
      have cb33 := b3.cell 3 _ rfl
      have cb34 := b3.cell 4 _ rfl
      have cb35 := b3.cell 5 _ rfl
      go_wp2_with fail
      clear cb00 cb01 cb02 cb03 cb04 cb05 cb10 cb11 cb12 cb13 cb14 cb15 cb20 cb21 cb22 cb23 cb24 cb25 cb30 cb31 cb32 cb33 cb34 cb35
      refine (porient_v f0.rq f1.rq f0.rq f1.rq f4.rq f5.rq (by omega) (by omega) (by omega) E4.out).mono ?_
      rintro e w304 ⟨rfl, hb⟩
      replace f0 := f0.below hb
      replace f1 := f1.below hb
      replace f2 := f2.below hb
      replace f3 := f3.below hb
      replace f4 := f4.below hb
      replace f5 := f5.below hb
      replace f6 := f6.below hb
      replace f7 := f7.below hb
      replace b0 := b0.below hb
      replace b1 := b1.below hb
      replace b2 := b2.below hb
      replace b3 := b3.below hb
      replace H0 := H0.trans (hb.mono H0.size)
      clear hb
      go_wp2_with fail
      go_returns
      exact ⟨rfl, H0⟩
end
end Go.Proofs.YtlpgbflajcfgpaaGreatDoor
