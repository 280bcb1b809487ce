/-
  The contract of Gcd.
-/
import Derived.Test.YtpbfecbhdfnacaaDoorShorten
import Derived.Deep.LoopGhost
namespace Go.Proofs.YtpbfecbhdfnacaaDoor
open Go.RowKit

section
variable {A A' : Option Addr} {n n' c c' X Y L L' : Nat} {w : World}
theorem gcd_lt {X Y L L' : Nat} (h : X < Bs L) (h' : Y < Bs L') : Nat.gcd X Y < Bs (max L L') := by
  rcases Nat.eq_zero_or_pos Y with h0 | h0
  · subst h0
    rw [Nat.gcd_zero_right]
    exact Nat.lt_of_lt_of_le h (Bs_mono (Nat.le_max_left _ _))
  · exact Nat.lt_of_le_of_lt (Nat.gcd_le_right X h0) (Nat.lt_of_lt_of_le h' (Bs_mono (Nat.le_max_right _ _)))
theorem NV.up {w : World} {v : Value} {x L L' : Nat} (h : NV w v x L) (hL : L ≤ L') : NV w v x L' := ⟨h.1, Nat.lt_of_lt_of_le h.2 (Bs_mono hL)⟩
set_option maxRecDepth 100000 in
set_option maxHeartbeats 4000000 in
theorem gcd_ge (hx : RV w (.slice A n c) X L) (hy : RV w (.slice A' n' c') Y L') (hL : L ≤ 1000000) (hL' : L' ≤ 1000000) (hle : Y ≤ X) :
    Calls Tryd.prog 12 #[.slice A n c, .slice A' n' c'] w fun e w' => ∃ B k d, e = .returned (.slice B k d) ∧ NV w' (.slice B k d) (Nat.gcd X Y) (max L L') ∧ Below w.heap.size w w' := by
  have hG : Nat.gcd X Y < Bs (max L L') := gcd_lt hx.lt hy.lt
  obtain ⟨G, hGe⟩ : ∃ G, Nat.gcd X Y = G := ⟨_, rfl⟩
  rw [hGe] at hG ⊢
  have HG := Lib.hid hG
  have HE := Lib.hid hGe
  clear hG hGe
  go_enter Tryd.func12, Tryd.ntmps12
  go_wp2_with fail
  refine (norm_v hx hL).mono ?_
  rintro e w1 ⟨B1, k1, d1, rfl, fx, hb⟩
  have H0 := hb
  replace hy := hy.below hb
  clear hb hx
  go_wp2_with fail
  refine (norm_v hy hL').mono ?_
  rintro e w2 ⟨B2, k2, d2, rfl, fy, hb⟩
  replace H0 := H0.trans (hb.mono H0.size)
  replace fx := fx.below hb
  clear hb hy
  go_wp2_with fail
  refine (cmp_v fx.rv fy.rv).mono ?_
  rintro e w3 ⟨rfl, hb⟩
  replace H0 := H0.trans (hb.mono H0.size)
  replace fx := fx.below hb
  replace fy := fy.below hb
  clear hb
  have hc : ¬ cmpI X Y < 0 := by unfold cmpI; rw [if_neg (by omega)]; split <;> omega
  go_wp2_with fail
  go_loopg [5, 6] Y (fun k xs ys wr => ∃ (R R' : Nat) (B5 : Option Addr) (k5 d5 : Nat) (B6 : Option Addr) (k6 d6 : Nat), xs = .slice B5 k5 d5 ∧ ys = .slice B6 k6 d6 ∧ NV wr (.slice B5 k5 d5) R (max L L') ∧ NV wr (.slice B6 k6 d6) R' (max L L') ∧ R' ≤ R ∧ R' ≤ k ∧ Nat.gcd R R' = G ∧ Below w.heap.size w wr)
  case atStart => exact ⟨_, _, _, _, _, _, _, _, rfl, rfl, fx.up (Nat.le_max_left _ _), fy.up (Nat.le_max_right _ _), by omega, Nat.le_refl _, HE.out, H0⟩
  case round =>
    obtain ⟨R, R', B5, k5, d5, B6, k6, d6, rfl, rfl, gx, gy, hRR, hRk, hgc, hbl⟩ := hrel
    have HGC := Lib.hid hgc
    clear hgc
    have hlen := (Raw.cap gy.1).1
    rcases Nat.lt_or_ge R' 18446744073709551616 with hs | hs
    · have h2 : k6 ≤ 2 := by rw [hlen]; exact digs_length_le (by rw [Bs_two]; exact hs)
      rcases Nat.eq_zero_or_pos R' with h0 | h0
      · subst h0
        rw [digs_zero, List.length_nil] at hlen
        subst hlen
        have hR : R = G := by rw [← HGC.out, Nat.gcd_zero_right]
        subst hR
        go_wp2_with fail
        try rw [Exit.noGoto_ret]
        go_ret
        exact ⟨_, _, _, rfl, gx, hbl⟩
      · have h1 : 0 < k6 := by rw [hlen]; exact digs_length_pos h0
        have h1' : ¬ (k6 : Int) = 0 := by omega
        have h1'' : ¬ k6 = 0 := by omega
        have h2' : ¬ 2 < k6 := by omega
        have h2'' : ¬ (2 : Int) < (k6 : Int) := by omega
        clear hlen
        have hm := Nat.mod_lt R h0
        go_wp2_with fail
        refine (divmod_v gx.rv gy.rv h0 (by omega)).mono ?_
        rintro e w4 ⟨B7, k7, d7, B8, k8, d8, rfl, _, g8, hb⟩
        replace hbl := hbl.trans (hb.mono hbl.size)
        replace gy := gy.below hb
        clear hb
        go_wp2_with fail
        refine (uint_small gy.rv hs).mono ?_
        rintro e w5 ⟨rfl, hb⟩
        replace hbl := hbl.trans (hb.mono hbl.size)
        replace g8 := g8.below hb
        clear hb
        go_wp2_with fail
        refine (uint_small g8.rv (by omega)).mono ?_
        rintro e w6 ⟨rfl, hb⟩
        replace hbl := hbl.trans (hb.mono hbl.size)
        clear hb
        have hg2 : Nat.gcd R' (R % R') = G := by rw [← HGC.out, Nat.gcd_comm R, Nat.gcd_rec R' R, Nat.gcd_comm]
        generalize R % R' = R2 at *
        have HG2 := Lib.hid hg2
        clear hg2 gx gy g8
        go_wp2_with fail
        have hR64 : R2 < 18446744073709551616 := by omega
        go_loopw [10, 12] (fun us vs wr => ∃ p q : Nat, us = .int .u64 p ∧ vs = .int .u64 q ∧ p < 18446744073709551616 ∧ q < 18446744073709551616 ∧ Nat.gcd p q = G ∧ Below w.heap.size w wr) (fun _ vs _ => (intOf vs).toNat)
        case atStart => exact ⟨R', R2, rfl, rfl, hs, hR64, HG2.out, hbl⟩
        case round =>
          obtain ⟨p, q, rfl, rfl, hp, hq, hpq, hbq⟩ := hrel
          have HPQ := Lib.hid hpq
          clear hpq
          rcases Nat.eq_zero_or_pos q with q0 | q0
          · subst q0
            have hpG : p = G := by rw [← HPQ.out, Nat.gcd_zero_right]
            subst hpG
            go_wp2_with fail
            refine (fromuint_v p hp _).mono ?_
            rintro e w7 ⟨B9, k9, d9, rfl, g9, hb⟩
            have hbf := hbq.trans (hb.mono hbq.size)
            have HN : NV w7 (.slice B9 k9 d9) p (max L L') := ⟨g9.1, HG.out⟩
            go_wp2_with fail
            try rw [Exit.noGoto_ret]
            go_ret
            exact ⟨_, _, _, rfl, HN, hbf⟩
          · have q1 : ¬ (q : Int) = 0 := by omega
            have q1' : ¬ q = 0 := by omega
            have e4 : ((p : Int) % (q : Int)) = ((p % q : Nat) : Int) := by omega
            have hry : p % q < q := Nat.mod_lt p q0
            have e6 : IntKind.u64.wrap ((p : Int) % (q : Int)) = ((p % q : Nat) : Int) := by rw [e4, IntKind.wrap_u64]; omega
            have hn : Nat.gcd q (p % q) = G := by rw [← HPQ.out, Nat.gcd_comm p, Nat.gcd_rec q p, Nat.gcd_comm]
            have HN := Lib.hid hn
            clear hn
            go_wp2_with fail
            go_region
            all_goals go_wp2_with fail
            refine ⟨⟨q, p % q, rfl, ?_, hq, by omega, HN.out, hbq.drew⟩, ?_⟩
            · rw [e4]
            · rw [e4]; simp [intOf]; omega
    · have h3 : 2 < k6 := by
        rw [hlen]
        rcases Nat.lt_or_ge 2 (digs R').length with h | h
        · exact h
        · have := digs_length_le_iff.1 h
          rw [Bs_two] at this
          omega
      have h3' : (2 : Int) < (k6 : Int) := by omega
      clear hlen
      go_wp2_with fail
      refine (shorten_v gx gy hRR hs (by omega)).mono ?_
      rintro e w4 ⟨B7, k7, d7, B8, k8, d8, S, S', rfl, g7, g8, hSS, hS, hg, hb⟩
      have hbf := hbl.trans (hb.mono hbl.size)
      obtain ⟨j, rfl⟩ : ∃ j, gk = j + 1 := ⟨gk - 1, by omega⟩
      have hgG : Nat.gcd S S' = G := by rw [hg]; exact HGC.out
      go_wp2_with fail
      go_roundg j
      case measure => omega
      case rel => exact ⟨S, S', _, _, _, _, _, _, rfl, rfl, g7, g8, hSS, by omega, hgG, hbf⟩
set_option maxRecDepth 100000 in
set_option maxHeartbeats 4000000 in
theorem gcd_lt2 (hx : RV w (.slice A n c) X L) (hy : RV w (.slice A' n' c') Y L') (hL : L ≤ 1000000) (hL' : L' ≤ 1000000) (hle : X < Y) :
    Calls Tryd.prog 12 #[.slice A n c, .slice A' n' c'] w fun e w' => ∃ B k d, e = .returned (.slice B k d) ∧ NV w' (.slice B k d) (Nat.gcd X Y) (max L L') ∧ Below w.heap.size w w' := by
  have hG : Nat.gcd X Y < Bs (max L L') := gcd_lt hx.lt hy.lt
  obtain ⟨G, hGe⟩ : ∃ G, Nat.gcd X Y = G := ⟨_, rfl⟩
  rw [hGe] at hG ⊢
  have HG := Lib.hid hG
  have HE := Lib.hid hGe
  clear hG hGe
  go_enter Tryd.func12, Tryd.ntmps12
  go_wp2_with fail
  refine (norm_v hx hL).mono ?_
  rintro e w1 ⟨B1, k1, d1, rfl, fx, hb⟩
  have H0 := hb
  replace hy := hy.below hb
  clear hb hx
  go_wp2_with fail
  refine (norm_v hy hL').mono ?_
  rintro e w2 ⟨B2, k2, d2, rfl, fy, hb⟩
  replace H0 := H0.trans (hb.mono H0.size)
  replace fx := fx.below hb
  clear hb hy
  go_wp2_with fail
  refine (cmp_v fx.rv fy.rv).mono ?_
  rintro e w3 ⟨rfl, hb⟩
  replace H0 := H0.trans (hb.mono H0.size)
  replace fx := fx.below hb
  replace fy := fy.below hb
  clear hb
  have hc : cmpI X Y < 0 := by rw [cmpI_lt hle]; omega
  go_wp2_with fail
  go_loopg [5, 6] X (fun k xs ys wr => ∃ (R R' : Nat) (B5 : Option Addr) (k5 d5 : Nat) (B6 : Option Addr) (k6 d6 : Nat), xs = .slice B5 k5 d5 ∧ ys = .slice B6 k6 d6 ∧ NV wr (.slice B5 k5 d5) R (max L L') ∧ NV wr (.slice B6 k6 d6) R' (max L L') ∧ R' ≤ R ∧ R' ≤ k ∧ Nat.gcd R R' = G ∧ Below w.heap.size w wr)
  case atStart => exact ⟨_, _, _, _, _, _, _, _, rfl, rfl, fy.up (Nat.le_max_right _ _), fx.up (Nat.le_max_left _ _), by omega, Nat.le_refl _, by rw [Nat.gcd_comm]; exact HE.out, H0⟩
  case round =>
    obtain ⟨R, R', B5, k5, d5, B6, k6, d6, rfl, rfl, gx, gy, hRR, hRk, hgc, hbl⟩ := hrel
    have HGC := Lib.hid hgc
    clear hgc
    have hlen := (Raw.cap gy.1).1
    rcases Nat.lt_or_ge R' 18446744073709551616 with hs | hs
    · have h2 : k6 ≤ 2 := by rw [hlen]; exact digs_length_le (by rw [Bs_two]; exact hs)
      rcases Nat.eq_zero_or_pos R' with h0 | h0
      · subst h0
        rw [digs_zero, List.length_nil] at hlen
        subst hlen
        have hR : R = G := by rw [← HGC.out, Nat.gcd_zero_right]
        subst hR
        go_wp2_with fail
        try rw [Exit.noGoto_ret]
        go_ret
        exact ⟨_, _, _, rfl, gx, hbl⟩
      · have h1 : 0 < k6 := by rw [hlen]; exact digs_length_pos h0
        have h1' : ¬ (k6 : Int) = 0 := by omega
        have h1'' : ¬ k6 = 0 := by omega
        have h2' : ¬ 2 < k6 := by omega
        have h2'' : ¬ (2 : Int) < (k6 : Int) := by omega
        clear hlen
        have hm := Nat.mod_lt R h0
        go_wp2_with fail
        refine (divmod_v gx.rv gy.rv h0 (by omega)).mono ?_
        rintro e w4 ⟨B7, k7, d7, B8, k8, d8, rfl, _, g8, hb⟩
        replace hbl := hbl.trans (hb.mono hbl.size)
        replace gy := gy.below hb
        clear hb
        go_wp2_with fail
        refine (uint_small gy.rv hs).mono ?_
        rintro e w5 ⟨rfl, hb⟩
        replace hbl := hbl.trans (hb.mono hbl.size)
        replace g8 := g8.below hb
        clear hb
        go_wp2_with fail
        refine (uint_small g8.rv (by omega)).mono ?_
        rintro e w6 ⟨rfl, hb⟩
        replace hbl := hbl.trans (hb.mono hbl.size)
        clear hb
        have hg2 : Nat.gcd R' (R % R') = G := by rw [← HGC.out, Nat.gcd_comm R, Nat.gcd_rec R' R, Nat.gcd_comm]
        generalize R % R' = R2 at *
        have HG2 := Lib.hid hg2
        clear hg2 gx gy g8
        go_wp2_with fail
        have hR64 : R2 < 18446744073709551616 := by omega
        go_loopw [10, 12] (fun us vs wr => ∃ p q : Nat, us = .int .u64 p ∧ vs = .int .u64 q ∧ p < 18446744073709551616 ∧ q < 18446744073709551616 ∧ Nat.gcd p q = G ∧ Below w.heap.size w wr) (fun _ vs _ => (intOf vs).toNat)
        case atStart => exact ⟨R', R2, rfl, rfl, hs, hR64, HG2.out, hbl⟩
        case round =>
          obtain ⟨p, q, rfl, rfl, hp, hq, hpq, hbq⟩ := hrel
          have HPQ := Lib.hid hpq
          clear hpq
          rcases Nat.eq_zero_or_pos q with q0 | q0
          · subst q0
            have hpG : p = G := by rw [← HPQ.out, Nat.gcd_zero_right]
            subst hpG
            go_wp2_with fail
            refine (fromuint_v p hp _).mono ?_
            rintro e w7 ⟨B9, k9, d9, rfl, g9, hb⟩
            have hbf := hbq.trans (hb.mono hbq.size)
            have HN : NV w7 (.slice B9 k9 d9) p (max L L') := ⟨g9.1, HG.out⟩
            go_wp2_with fail
            try rw [Exit.noGoto_ret]
            go_ret
            exact ⟨_, _, _, rfl, HN, hbf⟩
          · have q1 : ¬ (q : Int) = 0 := by omega
            have q1' : ¬ q = 0 := by omega
            have e4 : ((p : Int) % (q : Int)) = ((p % q : Nat) : Int) := by omega
            have hry : p % q < q := Nat.mod_lt p q0
            have e6 : IntKind.u64.wrap ((p : Int) % (q : Int)) = ((p % q : Nat) : Int) := by rw [e4, IntKind.wrap_u64]; omega
            have hn : Nat.gcd q (p % q) = G := by rw [← HPQ.out, Nat.gcd_comm p, Nat.gcd_rec q p, Nat.gcd_comm]
            have HN := Lib.hid hn
            clear hn
            go_wp2_with fail
            go_region
            all_goals go_wp2_with fail
            refine ⟨⟨q, p % q, rfl, ?_, hq, by omega, HN.out, hbq.drew⟩, ?_⟩
            · rw [e4]
            · rw [e4]; simp [intOf]; omega
    · have h3 : 2 < k6 := by
        rw [hlen]
        rcases Nat.lt_or_ge 2 (digs R').length with h | h
        · exact h
        · have := digs_length_le_iff.1 h
          rw [Bs_two] at this
          omega
      have h3' : (2 : Int) < (k6 : Int) := by omega
      clear hlen
      go_wp2_with fail
      refine (shorten_v gx gy hRR hs (by omega)).mono ?_
      rintro e w4 ⟨B7, k7, d7, B8, k8, d8, S, S', rfl, g7, g8, hSS, hS, hg, hb⟩
      have hbf := hbl.trans (hb.mono hbl.size)
      obtain ⟨j, rfl⟩ : ∃ j, gk = j + 1 := ⟨gk - 1, by omega⟩
      have hgG : Nat.gcd S S' = G := by rw [hg]; exact HGC.out
      go_wp2_with fail
      go_roundg j
      case measure => omega
      case rel => exact ⟨S, S', _, _, _, _, _, _, rfl, rfl, g7, g8, hSS, by omega, hgG, hbf⟩
theorem gcd_v (hx : RV w (.slice A n c) X L) (hy : RV w (.slice A' n' c') Y L') (hL : L ≤ 1000000) (hL' : L' ≤ 1000000) :
    Calls Tryd.prog 12 #[.slice A n c, .slice A' n' c'] w fun e w' => ∃ B k d, e = .returned (.slice B k d) ∧ NV w' (.slice B k d) (Nat.gcd X Y) (max L L') ∧ Below w.heap.size w w' := by
  rcases Nat.lt_or_ge X Y with h | h
  · exact gcd_lt2 hx hy hL hL' h
  · exact gcd_ge hx hy hL hL' h
end
end Go.Proofs.YtpbfecbhdfnacaaDoor
