/-
  Common, NMul in one text.
-/
import Derived.Test.YthmmnmajkeoaaabGreatDoorOR1
namespace Go.Proofs.YthmmnmajkeoaaabGreatDoor
open Go.RowKit

section
variable {A A' : Option Addr} {n n' c c' X Y L L' : Nat} {w : World}
set_option maxRecDepth 100000 in
theorem ncommon_word (hx : NV w (.slice A n c) X L) (hy : NV w (.slice A' n' c') Y L') (h1 : n ≤ 2) (h2 : n' ≤ 2) :
    Calls Tryz.prog 85 #[.slice A n c, .slice A' n' c'] w fun e w' => ∃ B k d, e = .returned (.slice B k d) ∧ NV w' (.slice B k d) (Nat.gcd X Y) (max L L') ∧ Below w.heap.size w w' := by
  have hG : Nat.gcd X Y < Bs (max L L') := gcd_lt hx.2 hy.2
  have b1 : X < 18446744073709551616 := by have := (Raw.cap hx.1).1; have h := digs_length_le_iff.1 (show (digs X).length ≤ 2 by omega); rwa [Bs_two] at h
  have b2 : Y < 18446744073709551616 := by have := (Raw.cap hy.1).1; have h := digs_length_le_iff.1 (show (digs Y).length ≤ 2 by omega); rwa [Bs_two] at h
  obtain ⟨G, hGe⟩ : ∃ G, Nat.gcd X Y = G := ⟨_, rfl⟩
  rw [hGe] at hG ⊢
  have HG := Lib.hid hG
  have HE := Lib.hid hGe
  clear hG hGe
  go_enter Tryz.func85, Tryz.ntmps85
  go_wp2_with fail
  refine (nword_small hx.1 h1).mono ?_
  rintro e w1 ⟨rfl, j1, rfl⟩
  go_wp2_with fail
  refine (nword_small (hy.below (below_drewN (Below.refl _ w) j1)).1 h2).mono ?_
  rintro e w2 ⟨rfl, j2, rfl⟩
  have H0 : Below w.heap.size w ((w.drewN j1).drewN j2) := below_drewN (below_drewN (Below.refl _ w) j1) j2
  go_wp2_with fail
  go_loopw [5, 7] (fun us vs wr => ∃ p q : Nat, us = .int .u64 p ∧ vs = .int .u64 q ∧ p < 18446744073709551616 ∧ q < 18446744073709551616 ∧ Nat.gcd p q = G ∧ Below w.heap.size w wr) (fun _ vs _ => (intOf vs).toNat)
  case atStart => exact ⟨X, Y, rfl, rfl, b1, b2, HE.out, below_drewN (Below.refl _ w) (j1 + j2)⟩
  case round =>
    obtain ⟨p, q, rfl, rfl, hp, hq, hpq, hbq⟩ := hrel
    have HPQ := Lib.hid hpq
    clear hpq H0
    rcases Nat.eq_zero_or_pos q with q0 | q0
    · subst q0
      have hpG : p = G := by rw [← HPQ.out, Nat.gcd_zero_right]
      subst hpG
      go_wp2_with fail
      refine (word_v p hp _).mono ?_
      rintro e w7 ⟨B9, k9, d9, rfl, g9, hb⟩
      have hbf := hbq.trans (hb.mono hbq.size)
      have HN : NV w7 (.slice B9 k9 d9) p (max L L') := ⟨g9.1, HG.out⟩
      go_wp2_with fail
      try rw [Exit.noGoto_ret]
      go_ret
      exact ⟨_, _, _, rfl, HN, hbf⟩
    · have q1 : ¬ (q : Int) = 0 := by omega
      have q1' : ¬ q = 0 := by omega
      have q2 : (0 : Int) < (q : Int) := by omega
      have e4 : ((p : Int) % (q : Int)) = ((p % q : Nat) : Int) := by omega
      have hry : p % q < q := Nat.mod_lt p q0
      have e6 : IntKind.u64.wrap ((p : Int) % (q : Int)) = ((p % q : Nat) : Int) := by rw [e4, IntKind.wrap_u64]; omega
      have hn : Nat.gcd q (p % q) = G := by rw [← HPQ.out, Nat.gcd_comm p, Nat.gcd_rec q p, Nat.gcd_comm]
      have HN := Lib.hid hn
      clear hn
      go_wp2_with fail
      go_region
      all_goals go_wp2_with fail
      refine ⟨⟨q, p % q, rfl, ?_, hq, by omega, HN.out, hbq.drew⟩, ?_⟩
      · rw [e4]
      · rw [e4]; simp [intOf]; omega
set_option maxRecDepth 100000 in
theorem ncommon_long (hx : NV w (.slice A n c) X L) (hy : NV w (.slice A' n' c') Y L') (hL : L ≤ 1000) (hL' : L' ≤ 1000) (h : 2 < n ∨ 2 < n') :
    Calls Tryz.prog 85 #[.slice A n c, .slice A' n' c'] w fun e w' => ∃ B k d, e = .returned (.slice B k d) ∧ NV w' (.slice B k d) (Nat.gcd X Y) (max L L') ∧ Below w.heap.size w w' := by
  have hG : Nat.gcd X Y < Bs (max L L') := gcd_lt hx.2 hy.2
  obtain ⟨G, hGe⟩ : ∃ G, Nat.gcd X Y = G := ⟨_, rfl⟩
  rw [hGe] at hG ⊢
  have HG := Lib.hid hG
  have HE := Lib.hid hGe
  clear hG hGe
  rcases Nat.lt_or_ge 2 n with h1 | h1
  · clear h
    go_enter Tryz.func85, Tryz.ntmps85
    go_wp2_with fail
    refine (nword_big h1).mono ?_
    rintro e w1 ⟨rfl, rfl⟩
    have fx := hx
    have fy := hy
    have H0 := Below.refl w1.heap.size w1
    go_wp2_with fail
    go_loopg [0, 1, 9, 10] Y (fun k xs ys _ _ wr => ∃ (R R' : Nat) (B5 : Option Addr) (k5 d5 : Nat) (B6 : Option Addr) (k6 d6 : Nat), xs = .slice B5 k5 d5 ∧ ys = .slice B6 k6 d6 ∧ NV wr (.slice B5 k5 d5) R (max L L') ∧ NV wr (.slice B6 k6 d6) R' (max L L') ∧ R' ≤ k ∧ Nat.gcd R R' = G ∧ Below w1.heap.size w1 wr)
    case atStart => exact ⟨_, _, _, _, _, _, _, _, rfl, rfl, fx.up (Nat.le_max_left _ _), fy.up (Nat.le_max_right _ _), Nat.le_refl _, HE.out, H0⟩
    case round =>
      obtain ⟨R, R', B5, k5, d5, B6, k6, d6, rfl, rfl, gx, gy, hRk, hgc, hbl⟩ := hrel
      have HGC := Lib.hid hgc
      clear hgc H0 fx fy
      have hlen := (Raw.cap gy.1).1
      rcases Nat.eq_zero_or_pos R' with h0 | h0
      · subst h0
        rw [digs_zero, List.length_nil] at hlen
        subst hlen
        have hR : R = G := by rw [← HGC.out, Nat.gcd_zero_right]
        subst hR
        have hln := Raw.len gx.1
        go_wp2_with (at_builtin; refine wpList_append_digs rfl _ _ _ _ rfl Tryz.underlying45 Tryz.underlying45 wr.heap.size rfl (grow_empty wr) rfl (raw_alloc gx.1 _) (by simp) (by simpa using hln) ?_; intro v' w8 hg hgr hb)
        rw [List.nil_append] at hg
        have hb2 := (below_alloc wr (.cells #[] 149)).trans hb
        obtain ⟨A1, c1, rfl⟩ := hg.form
        have hr := hg.raw hln
        have hbf := hbl.trans (hb2.mono hbl.size)
        have HN : NV w8 (.slice A1 _ c1) R (max L L') := ⟨hr, HG.out⟩
        go_wp2_with fail
        try rw [Exit.noGoto_ret]
        go_ret
        exact ⟨_, _, _, rfl, HN, hbf⟩
      · have h1 : 0 < k6 := by rw [hlen]; exact digs_length_pos h0
        have h1' : (0 : Int) < (k6 : Int) := by omega
        clear hlen
        have hm := Nat.mod_lt R h0
        go_wp2_with fail
        refine (ndivide_v gx gy h0 (by omega)).mono ?_
        rintro e w4 ⟨B7, k7, d7, B8, k8, d8, rfl, _, g8, hb⟩
        have hbf := hbl.trans (hb.mono hbl.size)
        have gy4 := gy.below hb
        obtain ⟨j, rfl⟩ : ∃ j, gk = j + 1 := ⟨gk - 1, by omega⟩
        have hgG : Nat.gcd R' (R % R') = G := by rw [← HGC.out, Nat.gcd_comm R, Nat.gcd_rec R' R, Nat.gcd_comm]
        go_wp2_with fail
        go_roundg j
        case measure => omega
        case rel => exact ⟨R', R % R', _, _, _, _, _, _, rfl, rfl, gy4, g8, by omega, hgG, hbf⟩
  · have h2 : 2 < n' := by omega
    clear h
    go_enter Tryz.func85, Tryz.ntmps85
    go_wp2_with fail
    refine (nword_small hx.1 h1).mono ?_
    rintro e w1 ⟨rfl, j1, rfl⟩
    go_wp2_with fail
    refine (nword_big h2).mono ?_
    rintro e w2 ⟨rfl, rfl⟩
    have H0 : Below w.heap.size w (w.drewN j1) := below_drewN (Below.refl _ w) j1
    have fx := hx.below H0
    have fy := hy.below H0
    go_wp2_with fail
    go_loopg [0, 1, 9, 10] Y (fun k xs ys _ _ wr => ∃ (R R' : Nat) (B5 : Option Addr) (k5 d5 : Nat) (B6 : Option Addr) (k6 d6 : Nat), xs = .slice B5 k5 d5 ∧ ys = .slice B6 k6 d6 ∧ NV wr (.slice B5 k5 d5) R (max L L') ∧ NV wr (.slice B6 k6 d6) R' (max L L') ∧ R' ≤ k ∧ Nat.gcd R R' = G ∧ Below w.heap.size w wr)
    case atStart => exact ⟨_, _, _, _, _, _, _, _, rfl, rfl, fx.up (Nat.le_max_left _ _), fy.up (Nat.le_max_right _ _), Nat.le_refl _, HE.out, H0⟩
    case round =>
      obtain ⟨R, R', B5, k5, d5, B6, k6, d6, rfl, rfl, gx, gy, hRk, hgc, hbl⟩ := hrel
      have HGC := Lib.hid hgc
      clear hgc H0 fx fy
      have hlen := (Raw.cap gy.1).1
      rcases Nat.eq_zero_or_pos R' with h0 | h0
      · subst h0
        rw [digs_zero, List.length_nil] at hlen
        subst hlen
        have hR : R = G := by rw [← HGC.out, Nat.gcd_zero_right]
        subst hR
        have hln := Raw.len gx.1
        go_wp2_with (at_builtin; refine wpList_append_digs rfl _ _ _ _ rfl Tryz.underlying45 Tryz.underlying45 wr.heap.size rfl (grow_empty wr) rfl (raw_alloc gx.1 _) (by simp) (by simpa using hln) ?_; intro v' w8 hg hgr hb)
        rw [List.nil_append] at hg
        have hb2 := (below_alloc wr (.cells #[] 149)).trans hb
        obtain ⟨A1, c1, rfl⟩ := hg.form
        have hr := hg.raw hln
        have hbf := hbl.trans (hb2.mono hbl.size)
        have HN : NV w8 (.slice A1 _ c1) R (max L L') := ⟨hr, HG.out⟩
        go_wp2_with fail
        try rw [Exit.noGoto_ret]
        go_ret
        exact ⟨_, _, _, rfl, HN, hbf⟩
      · have h1 : 0 < k6 := by rw [hlen]; exact digs_length_pos h0
        have h1' : (0 : Int) < (k6 : Int) := by omega
        clear hlen
        have hm := Nat.mod_lt R h0
        go_wp2_with fail
        refine (ndivide_v gx gy h0 (by omega)).mono ?_
        rintro e w4 ⟨B7, k7, d7, B8, k8, d8, rfl, _, g8, hb⟩
        have hbf := hbl.trans (hb.mono hbl.size)
        have gy4 := gy.below hb
        obtain ⟨j, rfl⟩ : ∃ j, gk = j + 1 := ⟨gk - 1, by omega⟩
        have hgG : Nat.gcd R' (R % R') = G := by rw [← HGC.out, Nat.gcd_comm R, Nat.gcd_rec R' R, Nat.gcd_comm]
        go_wp2_with fail
        go_roundg j
        case measure => omega
        case rel => exact ⟨R', R % R', _, _, _, _, _, _, rfl, rfl, gy4, g8, by omega, hgG, hbf⟩
theorem ncommon_v (hx : NV w (.slice A n c) X L) (hy : NV w (.slice A' n' c') Y L') (hL : L ≤ 1000) (hL' : L' ≤ 1000) :
    Calls Tryz.prog 85 #[.slice A n c, .slice A' n' c'] w fun e w' => ∃ B k d, e = .returned (.slice B k d) ∧ NV w' (.slice B k d) (Nat.gcd X Y) (max L L') ∧ Below w.heap.size w w' := by
  by_cases h : 2 < n ∨ 2 < n'
  · exact ncommon_long hx hy hL hL' h
  · exact ncommon_word hx hy (by omega) (by omega)
end
end Go.Proofs.YthmmnmajkeoaaabGreatDoor
namespace Go.Proofs.YthmmnmajkeoaaabGreatDoor
open Go.RowKit
section
variable {A A' : Option Addr} {n n' c c' L L' : Nat} {s s' : Bool} {z z' : Int} {w : World}
set_option maxRecDepth 100000 in
theorem nmul_v (h : NI w s (.slice A n c) z L) (h' : NI w s' (.slice A' n' c') z' L') (hL : L ≤ 1000000) (hL' : L' ≤ 1000000) :
    Calls Tryz.prog 60 #[.agg #[.bool s, .slice A n c], .agg #[.bool s', .slice A' n' c']] w fun e w' => ∃ t B k d, e = .returned (.agg #[.bool t, .slice B k d]) ∧ NI w' t (.slice B k d) (z * z') (L + L') ∧ Below w.heap.size w w' := by
  have e1 := h.ri.sg
  have e2 := h'.ri.sg
  have hx := h.1
  have hy := h'.1
  clear h h'
  generalize z.natAbs = x at e1 hx
  generalize z'.natAbs = y at e2 hy
  subst e1 e2
  have hz : sg (s != s') (x * y) = sg s x * sg s' y := by
    cases s <;> cases s' <;> simp [sg, Int.neg_mul, Int.mul_neg]
  have HZ := Lib.hid hz
  clear hz
  generalize sg s x * sg s' y = z at *
  go_enter Tryz.func60, Tryz.ntmps60
  go_wp2_with fail
  obtain ⟨W, hW, b0, b1, b2, hbW, hsz⟩ := boxes3 w #[.bool s, .slice A n c] #[.bool s', .slice A' n' c'] #[.bool false, .slice none 0 0] 47 47 47
  rw [hW]
  have a0 := b0.cell 0 _ rfl
  have a1 := b0.cell 1 _ rfl
  have d0 := b1.cell 0 _ rfl
  have d1 := b1.cell 1 _ rfl
  have hx1 := hx.below hbW
  have hy1 := hy.below hbW
  clear hW hx hy
  go_region_held3 (fun V => V.cell? ⟨w.heap.size, 0, none⟩ = some (.bool s) ∧ V.cell? ⟨w.heap.size, 1, none⟩ = some (.slice A n c) ∧ V.cell? ⟨w.heap.size + 1, 0, none⟩ = some (.bool s') ∧ V.cell? ⟨w.heap.size + 1, 1, none⟩ = some (.slice A' n' c')) (first | exact ⟨a0, a1, d0, d1⟩ | exact HC | exact KC | exact ⟨(p0.far (by omega) _ _).cell 0 _ rfl, (p0.far (by omega) _ _).cell 1 _ rfl, (p1.far (by omega) _ _).cell 0 _ rfl, (p1.far (by omega) _ _).cell 1 _ rfl⟩ | go_keep)
    (first
      | (go_at_call 61; refine (nprod_v (w := W.drew) hx1 hy1 hL hL').mono ?_; rintro e w1 ⟨B, k, d, rfl, hN, hb1⟩; have hb1' := below_drawn hb1; have q0 := b0.below hb1'; have q1 := b1.below hb1'; have q2 := b2.below hb1'; have HC := And.intro (q0.cell 0 _ rfl) (And.intro (q0.cell 1 _ rfl) (And.intro (q1.cell 0 _ rfl) (q1.cell 1 _ rfl))))
      | (go_at_call 64; refine (nmake_v _ hN HZ.out).mono ?_; rintro e w2 ⟨t, rfl, hI, hb2⟩; have p0 := q0.below hb2; have p1 := q1.below hb2; have p2 := q2.below hb2; have KC := And.intro (p0.cell 0 _ rfl) (And.intro (p0.cell 1 _ rfl) (And.intro (p1.cell 0 _ rfl) (p1.cell 1 _ rfl))); have r0 := p2.cell 0 _ rfl; have r1 := p2.cell 1 _ rfl; have f0 := p2.frozen 0; have f1 := p2.frozen 1; have hbT := hbW.trans ((hb1'.trans (hb2.mono hb1'.size)).mono hbW.size)))
  have hI2 := hI.stored p2 (notInt_box _ _ _ _) (.bool t) (.slice B k d)
  have hbf := below_stored (g := w.heap.size + 1 + 1) hbT (by omega) (.bool t) (.slice B k d)
  have hbx := p2.stored (.bool t) (.slice B k d)
  go_wp2_with fail
  refine bodyPost_ret (ret_intN rfl rfl hbx) rfl ?_
  exact ⟨t, B, k, d, rfl, hI2, hbf⟩
end
end Go.Proofs.YthmmnmajkeoaaabGreatDoor
