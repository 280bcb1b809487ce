/-
  The contracts of the reference's One and Floor.
-/
import Derived.Test.YtkhfadfjkmhpgaaGreatDoorRefV
import Derived.Test.YtkhfadfjkmhpgaaGreatDoorK8
namespace Go.Proofs.YtkhfadfjkmhpgaaGreatDoor
open Go.RowKit
theorem floor_pos (X y : Nat) : (X : Int) / (y : Int) = sg false (X / y) ∧ ((X : Int) % (y : Int)).toNat = X % y := by
  rw [sg_false]; exact ⟨by simp, by omega⟩
theorem floor_zero {X y : Nat} (hy : 0 < y) (h : X % y = 0) : (-(X : Int)) / (y : Int) = sg true (X / y) ∧ ((-(X : Int)) % (y : Int)).toNat = X % y := by
  have hd := Nat.div_add_mod X y
  rw [h, Nat.add_zero] at hd
  rw [sg_true, h]
  have hu := (Int.ediv_emod_unique (a := -(X : Int)) (b := (y : Int)) (q := -((X / y : Nat) : Int)) (r := 0) (by omega)).2 ⟨by rw [Int.zero_add, Int.mul_neg, ← Int.natCast_mul, hd], by omega, by omega⟩
  exact ⟨hu.1, by rw [hu.2]; rfl⟩
theorem floor_neg {X y : Nat} (hy : 0 < y) (h : 0 < X % y) : (-(X : Int)) / (y : Int) = sg true (X / y + 1) ∧ ((-(X : Int)) % (y : Int)).toNat = y - X % y := by
  have hd := Nat.div_add_mod X y
  have hm := Nat.mod_lt X hy
  rw [sg_true]
  have hu := (Int.ediv_emod_unique (a := -(X : Int)) (b := (y : Int)) (q := -((X / y + 1 : Nat) : Int)) (r := ((y - X % y : Nat) : Int)) (by omega)).2 ⟨by rw [Int.mul_neg, ← Int.natCast_mul, Nat.mul_add, Nat.mul_one]; omega, by omega, by omega⟩
  exact ⟨hu.1, by rw [hu.2]; rfl⟩
theorem NV.more2 {w : World} {v : Value} {x L L' : Nat} (h : NV w v x L) (hL : L ≤ L') : NV w v x L' := ⟨h.1, Nat.lt_of_lt_of_le h.2 (Bs_mono hL)⟩
set_option maxRecDepth 100000 in
theorem none_v (w : World) : Calls Tryz.prog 74 #[] w fun e w' => ∃ B k d, e = .returned (.slice B k d) ∧ NV w' (.slice B k d) 1 1 ∧ Below w.heap.size w w' := by
  have r1 : Raw (w.alloc (.cells #[.int .u32 1] 77)) (.slice (some ⟨w.heap.size, 0, none⟩) 1 1) [1] := raw_lit w _ _ 1 _ rfl (okD_one (by decide)) rfl (by decide) rfl
  have hd : digs 1 = [1] := by rw [digs_pos (by omega), show 1 / 4294967296 = 0 from rfl, digs_zero]
  have hN : NV (w.alloc (.cells #[.int .u32 1] 77)) (.slice (some ⟨w.heap.size, 0, none⟩) 1 1) 1 1 := ⟨by unfold Num; rw [hd]; exact r1, by rw [Bs_one]; omega⟩
  have hb := below_alloc w (.cells #[.int .u32 1] 77)
  go_enter Tryz.func74, Tryz.ntmps74
  go_wp2_with fail
  go_ret
  exact ⟨_, _, _, rfl, hN, hb⟩
theorem ret_floor {fn : Func} {p q : Tmp} (h : fn.results = #[.cell p 32, .tmp q]) {tmps : Array Value} {w : World} {g : Nat} {a b : Value} {t : TypeId} (hp : tmps.getD p undef = .pointer (some ⟨g, 0, none⟩)) (hb : Box w g #[a, b] t) :
    (results fn tmps).run Tryz.prog w = .ok (.tuple #[.agg #[a, b], tmps.getD q undef]) w := by
  have hp' : tmps[p]?.getD undef = .pointer (some ⟨g, 0, none⟩) := by simpa using hp
  have h1 := run_loadVar_row (P := Tryz.prog) w g t 32 #[a, b] (0, 0) _ hb Tryz.underlying32 rfl info_intN
  simp [results, h, hp', asAddr, h1]
section
variable {A A' : Option Addr} {n n' c c' L L' y : Nat} {s : Bool} {z : Int} {w : World}
set_option maxRecDepth 100000 in
theorem nfloor_v (h : NI w s (.slice A n c) z L) (hy : NV w (.slice A' n' c') y L') (hy0 : 0 < y) (hL : L ≤ 900) (hL' : L' ≤ 900) :
    Calls Tryz.prog 28 #[.agg #[.bool s, .slice A n c], .slice A' n' c'] w fun e w' => ∃ t B k d B' k' d', e = .returned (.tuple #[.agg #[.bool t, .slice B k d], .slice B' k' d']) ∧ NI w' t (.slice B k d) (z / (y : Int)) (max L 1 + 1) ∧ NV w' (.slice B' k' d') (z % (y : Int)).toNat L' ∧ Below w.heap.size w w' := by
  have hx := h.1
  have hz := h.ri.sg
  have HS := Lib.hid h.2
  generalize z.natAbs = X at hx hz
  have HZ := Lib.hid hz
  have HY := Lib.hid hy0
  clear h hz hy0
  go_enter Tryz.func28, Tryz.ntmps28
  go_wp2_with fail
  obtain ⟨W, hW, b0, b1, hbW, hsz⟩ := boxes2 w #[.bool s, .slice A n c] #[.bool false, .slice none 0 0] 32 32
  rw [hW]
  clear hW
  replace hy := hy.below hbW
  refine (ndivide_v (hx.below hbW) hy HY.out (by omega)).mono ?_
  rintro e w1 ⟨B1, k1, d1, B2, k2, d2, rfl, fq, fr, hb⟩
  have H0 := hbW.trans (hb.mono hbW.size)
  replace hy := hy.below hb
  replace b0 := b0.below hb
  replace b1 := b1.below hb
  have hlen := (Raw.cap fr.1).1
  clear hb hbW
  have q0 := b0.cell 0 _ rfl
  rcases Bool.eq_false_or_eq_true s with hs | hs
  · subst hs
    rcases Nat.eq_zero_or_pos (X % y) with h0 | h0
    · rw [h0] at fr
      rw [h0, digs_zero, List.length_nil] at hlen
      subst hlen
      go_wp2_with fail
      refine (nmake_v _ fq rfl).mono ?_
      rintro e w2 ⟨t, rfl, hI, hb⟩
      have p0 := b1.below hb
      have r0 := p0.cell 0 _ rfl
      have r1 := p0.cell 1 _ rfl
      have f0 := p0.frozen 0
      have f1 := p0.frozen 1
      have hbT := H0.trans (hb.mono H0.size)
      have hF := hI.stored p0 (notInt_box _ _ _ _) (.bool t) (.slice B1 k1 d1)
      have hR := (fr.below hb).stored p0 (notInt_box _ _ _ _) (.bool t) (.slice B1 k1 d1)
      have hbf := below_stored (g := w.heap.size + 1) hbT (by omega) (.bool t) (.slice B1 k1 d1)
      have hbx := p0.stored (.bool t) (.slice B1 k1 d1)
      clear hI hb
      go_wp2_with fail
      refine bodyPost_ret (ret_floor rfl rfl hbx) rfl ?_
      have hfl := floor_zero HY.out h0
      rw [← sg_true, ← HZ.out, h0] at hfl
      exact ⟨t, B1, k1, d1, _, _, _, rfl, by rw [hfl.1]; exact ⟨NV.more2 hF.1 (by omega), hF.2⟩, by rw [hfl.2]; exact hR, hbf⟩
    · have h1 : 0 < k2 := by rw [hlen]; exact digs_length_pos h0
      have h1' : (0 : Int) < (k2 : Int) := by omega
      clear hlen
      go_wp2_with fail
      refine (none_v _).mono ?_
      rintro e w2 ⟨B3, k3, d3, rfl, f3, hb⟩
      replace H0 := H0.trans (hb.mono H0.size)
      replace fq := fq.below hb
      replace fr := fr.below hb
      replace hy := hy.below hb
      replace b1 := b1.below hb
      clear hb q0
      go_wp2_with fail
      refine (nsum_v fq f3 (by omega) (by omega)).mono ?_
      rintro e w3 ⟨B4, k4, d4, rfl, f4, hb⟩
      replace H0 := H0.trans (hb.mono H0.size)
      replace fr := fr.below hb
      replace hy := hy.below hb
      replace b1 := b1.below hb
      clear hb
      go_wp2_with fail
      refine (nmake_v _ f4 rfl).mono ?_
      rintro e w4 ⟨t, rfl, hI, hb⟩
      replace H0 := H0.trans (hb.mono H0.size)
      replace fr := fr.below hb
      replace hy := hy.below hb
      replace b1 := b1.below hb
      clear hb
      have hm := Nat.mod_lt X HY.out
      go_wp2_with fail
      refine (nless_v hy fr (by omega) (by omega)).mono ?_
      rintro e w5 ⟨B5, k5, d5, rfl, f5, hb⟩
      replace hI := hI.below hb
      have p0 := b1.below hb
      have r0 := p0.cell 0 _ rfl
      have r1 := p0.cell 1 _ rfl
      have f0 := p0.frozen 0
      have f1 := p0.frozen 1
      have hbT := H0.trans (hb.mono H0.size)
      have hF := hI.stored p0 (notInt_box _ _ _ _) (.bool t) (.slice B4 k4 d4)
      have hR := f5.stored p0 (notInt_box _ _ _ _) (.bool t) (.slice B4 k4 d4)
      have hbf := below_stored (g := w.heap.size + 1) hbT (by omega) (.bool t) (.slice B4 k4 d4)
      have hbx := p0.stored (.bool t) (.slice B4 k4 d4)
      clear hI hb
      go_wp2_with fail
      refine bodyPost_ret (ret_floor rfl rfl hbx) rfl ?_
      have hfl := floor_neg HY.out h0
      rw [← sg_true, ← HZ.out] at hfl
      exact ⟨t, B4, k4, d4, _, _, _, rfl, by rw [hfl.1]; exact hF, by rw [hfl.2]; exact hR, hbf⟩
  · subst hs
    clear hlen
    go_wp2_with fail
    refine (nmake_v _ fq rfl).mono ?_
    rintro e w2 ⟨t, rfl, hI, hb⟩
    have p0 := b1.below hb
    have r0 := p0.cell 0 _ rfl
    have r1 := p0.cell 1 _ rfl
    have f0 := p0.frozen 0
    have f1 := p0.frozen 1
    have hbT := H0.trans (hb.mono H0.size)
    have hF := hI.stored p0 (notInt_box _ _ _ _) (.bool t) (.slice B1 k1 d1)
    have hR := (fr.below hb).stored p0 (notInt_box _ _ _ _) (.bool t) (.slice B1 k1 d1)
    have hbf := below_stored (g := w.heap.size + 1) hbT (by omega) (.bool t) (.slice B1 k1 d1)
    have hbx := p0.stored (.bool t) (.slice B1 k1 d1)
    clear hI hb
    go_wp2_with fail
    refine bodyPost_ret (ret_floor rfl rfl hbx) rfl ?_
    have hfl := floor_pos X y
    rw [← sg_false X, ← HZ.out] at hfl
    exact ⟨t, B1, k1, d1, _, _, _, rfl, by rw [hfl.1]; exact ⟨NV.more2 hF.1 (by omega), hF.2⟩, by rw [hfl.2]; exact hR, hbf⟩
end
end Go.Proofs.YtkhfadfjkmhpgaaGreatDoor
