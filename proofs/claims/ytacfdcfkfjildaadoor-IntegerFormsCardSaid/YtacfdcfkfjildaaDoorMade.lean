/-
  An integer from the tape, and what the laws of integers compare.
-/
import Derived.Test.YtacfdcfkfjildaaDoorInt3
namespace Go.Proofs.YtacfdcfkfjildaaDoor
open Go.RowKit

section
variable {A A' : Option Addr} {n n' c c' x y L L' : Nat} {s s' : Bool} {z z' : Int} {w : World}
theorem info_intN : (Tryd.prog.info? 66).map (·.size) = some 2 := by kernel_rfl
theorem ret_intN {fn : Func} {p : Tmp} (h : fn.results = #[.cell p 66]) {tmps : Array Value} {w : World} {g : Nat} {a b : Value} {t : TypeId} (hp : tmps.getD p undef = .pointer (some ⟨g, 0, none⟩)) (hb : Box w g #[a, b] t) :
    (results fn tmps).run Tryd.prog w = .ok (.agg #[a, b]) w :=
  results_cell_row h tmps w g t #[a, b] (0, 0) _ hp hb Tryd.underlying66 rfl info_intN
theorem Box.other {w w' : World} {g b : Nat} {cs : Array Value} {t : TypeId} (h : Box w g cs t) (hg : w.grownBy w' (some b)) (hne : g ≠ b) : Box w' g cs t :=
  (hg.block g h.lt (by intro e; injection e with e; exact hne e)).trans h
theorem GV.weak {w : World} {b b' : Nat} {v : Value} {x L : Nat} (h : GV w b v x L) (hb : b' ≤ b) : GV w b' v x L := by
  obtain ⟨B, ds, h1, h2⟩ := h; exact ⟨B, ds, by omega, h2⟩
theorem nmake_any (s : Bool) (h : NV w (.slice A n c) x L) :
    Calls Tryd.prog 69 #[.bool s, .slice A n c] w fun e w' => e = .returned (.agg #[.bool (decide (sg s x < 0)), .slice A n c]) ∧ Below w.heap.size w w' := by
  have hn := (Raw.cap h.1).1
  rw [sg_neg]
  rcases Nat.eq_zero_or_pos x with rfl | h0
  · have hn0 : n = 0 := by rw [digs_zero] at hn; exact hn
    subst hn0
    clear h hn
    cases s
    all_goals
      go_enter Tryd.func69, Tryd.ntmps69
      go_wp2_with fail
      go_returns
      exact ⟨rfl, below_alloc w _⟩
  · have hnp : 0 < n := by rw [hn]; exact digs_length_pos h0
    have hd : decide (0 < x) = true := decide_eq_true h0
    rw [hd]
    clear h hn hd h0
    cases s
    all_goals
      go_enter Tryd.func69, Tryd.ntmps69
      go_wp2_with fail
      go_returns
      exact ⟨rfl, below_alloc w _⟩
theorem nmake_v (s : Bool) (h : NV w (.slice A n c) x L) (hz : sg s x = z) :
    Calls Tryd.prog 69 #[.bool s, .slice A n c] w fun e w' => ∃ t, e = .returned (.agg #[.bool t, .slice A n c]) ∧ NI w' t (.slice A n c) z L ∧ Below w.heap.size w w' := by
  refine (nmake_any s h).mono ?_
  rintro e w' ⟨rfl, hb⟩
  subst hz
  exact ⟨_, rfl, ⟨by rw [sg_abs]; exact h.below hb, rfl⟩, hb⟩
set_option maxRecDepth 100000 in
theorem tapeint_v {b : Nat} (m : Nat) (hm : m ≤ 1000) (h : Tape w b) (hb : b < w.heap.size) :
    Calls Tryd.prog 111 #[.pointer (some ⟨b, 0, none⟩), .int .i64 (m : Int)] w fun e w' => ∃ t x B k d, e = .returned (.agg #[.bool t, .slice B k d]) ∧ NV w' (.slice B k d) x m ∧ Tape w' b ∧ w.grownBy w' (some b) := by
  go_enter Tryd.func111, Tryd.ntmps111
  go_wp2_with fail
  obtain ⟨W, hW, b0, hbW, hsz⟩ := boxes1 w #[.bool false, .slice none 0 0] 66
  rw [hW]
  have gW : w.grownBy W (some b) := only_below ⟨rfl, rfl, rfl, Nat.le_refl _, fun _ _ _ => rfl⟩ hbW (Nat.le_refl _)
  clear hW
  refine (next_any 2 (by omega) (by omega) (h.keep hbW hb)).mono ?_
  rintro e w1 ⟨r, rfl, hr, ht, hg⟩
  have b1 := b0.other hg (by omega)
  have g1 := only_trans gW hg
  have hlt := Nat.lt_of_lt_of_le hb g1.size
  clear b0 hg
  go_wp2_with fail
  refine (tapenat_v m hm ht hlt).mono ?_
  rintro e w2 ⟨x, B, k, d, rfl, hX, ht2, hg2⟩
  have b2 := b1.other hg2 (by omega)
  have g2 := only_trans g1 hg2
  have hlt2 := Nat.lt_of_lt_of_le hb g2.size
  have hs2 := g2.size
  clear b1 hg2 g1
  go_wp2_with fail
  refine (nmake_any _ hX).mono ?_
  rintro e w3 ⟨rfl, hb3⟩
  generalize decide (sg ((r : Int) == 1) x < 0) = t
  have p0 := b2.below hb3
  have r0 := p0.cell 0 _ rfl
  have r1 := p0.cell 1 _ rfl
  have f0 := p0.frozen 0
  have f1 := p0.frozen 1
  have hX3 := hX.below hb3
  have ht3 := ht2.keep hb3 hlt2
  have g3 := only_below g2 hb3 hs2
  have hI2 := hX3.stored p0 (notInt_box _ _ _ _) (.bool t) (.slice B k d)
  have hbs := below_stored (Below.refl w.heap.size w3) (Nat.le_refl _) (.bool t) (.slice B k d)
  have htf := ht3.keep hbs hb
  have hgf := only_below g3 hbs (Nat.le_refl _)
  have hbx := p0.stored (.bool t) (.slice B k d)
  clear b2 hX ht2 g2 g3 ht3 ht hbs
  go_wp2_with fail
  refine bodyPost_ret (ret_intN rfl rfl hbx) rfl ?_
  exact ⟨t, x, B, k, d, rfl, hI2, htf, hgf⟩
theorem drawn_below (w : World) : Below w.heap.size w w.drew := (below_drewN (Below.refl _ w) 1)
/-- A number is kept where only the tape is written. -/
theorem NV.other {w w' : World} {v : Value} {x L b : Nat} (h : NV w v x L) (ht : Tape w b) (hg : w.grownBy w' (some b)) : NV w' v x L := by
  obtain ⟨A, n, c, t, h1, _⟩ := ht
  exact ⟨Raw.keepBut h.1 hg (Raw.apart h.1 (cs := #[.slice A n c, .int .i64 (t : Int)]) h1 (by simp [notInt])), h.2⟩
set_option maxRecDepth 100000 in
set_option maxHeartbeats 3200000 in
/-- The absolute value and the sign that made takes. -/
theorem made_v {b : Nat} (h : Tape w b) (hb : b < w.heap.size) :
    Calls Tryd.prog 56 #[.pointer (some ⟨b, 0, none⟩)] w fun e w' => ∃ z t B k d, e = .returned (.agg #[.bool t, .slice B k d]) ∧ GI w' b t (.slice B k d) z 6 ∧ Tape w' b ∧ w.grownBy w' (some b) := by
  go_enter Tryd.func56, Tryd.ntmps56
  go_wp2_with fail
  obtain ⟨W, hW, b0, hbW, hsz⟩ := boxes1 w #[.bool false, .slice none 0 0] 64
  rw [hW]
  have gW : w.grownBy W (some b) := only_below ⟨rfl, rfl, rfl, Nat.le_refl _, fun _ _ _ => rfl⟩ hbW (Nat.le_refl _)
  clear hW
  refine (tapeint_v 4 (by omega) (h.keep hbW hb) (by omega)).mono ?_
  rintro e w1 ⟨t, x, B, k, d, rfl, hX, ht, hg⟩
  have b1 := b0.other hg (by omega)
  have g1 := only_trans gW hg
  have hlt := Nat.lt_of_lt_of_le hb g1.size
  have hs1 := g1.size
  have hsw := b1.lt
  clear b0 hg gW hbW
  cases t
  · rcases Nat.eq_zero_or_pos k with rfl | hk
    · go_wp2_with fail
      obtain ⟨W2, hW2, c0, hb2, hsz2⟩ := boxes1 w1 #[.bool false, .slice B 0 d] 66
      rw [hW2]
      clear hW2
      have b2 := b1.below hb2
      have hT2 := ht.keep hb2 hlt
      have hX2 := hX.below hb2
      have G2 := only_below g1 hb2 hs1
      have hs2 := G2.size
      go_region_held3 (fun V => V.cell? ⟨w1.heap.size, 0, none⟩ = some (.bool false) ∧ V.cell? ⟨w1.heap.size, 1, none⟩ = some (.slice B 0 d)) (first | exact ⟨c0.cell 0 _ rfl, c0.cell 1 _ rfl⟩ | exact HC | exact KC | exact LC | exact ⟨(u0.far (by omega) _ _).cell 0 _ rfl, (u0.far (by omega) _ _).cell 1 _ rfl⟩ | go_keep)
        (first
          | (go_at_call 30; refine (next_any 3 (by omega) (by omega) hT3).mono ?_; rintro e w4 ⟨r3, rfl, hr3, hT4, hg4⟩; have p0 := q0.other hg4 (by omega); have P0 := Q0.other hg4 (by omega); have KC := And.intro (p0.cell 0 _ rfl) (p0.cell 1 _ rfl); have G4 := only_trans G3 hg4; have hlt4 := Nat.lt_of_lt_of_le hb G4.size; have hX4 := NV.other hX3 hT3 hg4; have hs4 := G4.size; have hsr := P0.lt)
          | (go_at_call 30; refine (next_any (w := W2.drew) 2 (by omega) (by omega) hT2).mono ?_; rintro e w3 ⟨r2, rfl, hr2, hT3, hg3⟩; have q0 := c0.other (w := W2.drew) hg3 (by omega); have Q0 := b2.other (w := W2.drew) hg3 (by omega); have HC := And.intro (q0.cell 0 _ rfl) (q0.cell 1 _ rfl); have G3 := only_trans (only_below G2 (drawn_below _) hs2) hg3; have hlt3 := Nat.lt_of_lt_of_le hb G3.size; have hX3 := NV.other (w := W2.drew) hX2 hT2 hg3)
          | (go_at_call 31; refine (nats_v (b := w.heap.size) hX4 r3 (by omega) hsr (by omega)).mono ?_; rintro e w5 ⟨B5, k5, d5, rfl, hV, hb5⟩; have u0 := p0.below hb5; have U0 := P0.below hb5; have LC := And.intro (u0.cell 0 _ rfl) (u0.cell 1 _ rfl); have r0 := U0.cell 0 _ rfl; have r1 := U0.cell 1 _ rfl; have f0 := U0.frozen 0; have f1 := U0.frozen 1; have hT5 := hT4.keep hb5 hlt4; have G5 := only_below G4 hb5 hs4))
      have hbs := below_stored (Below.refl w.heap.size w5) (Nat.le_refl _) (.bool ((r2 : Int) == 1)) (.slice B5 k5 d5)
      have hVf := (hV.other (only_store w5 w.heap.size (.bool ((r2 : Int) == 1)) (.slice B5 k5 d5))).weak (Nat.le_of_lt hb)
      have htf := hT5.keep hbs hb
      have hgf := only_below G5 hbs (Nat.le_refl _)
      have hbx := U0.stored (.bool ((r2 : Int) == 1)) (.slice B5 k5 d5)
      go_wp2_with fail
      refine bodyPost_ret (ret_int rfl rfl hbx) rfl ?_
      exact ⟨_, _, B5, k5, d5, rfl, ⟨x, hVf, rfl⟩, htf, hgf⟩
    · have hkn : ¬ k = 0 := by omega
      have hkz : ¬ (k : Int) = 0 := by omega
      have hkb : ((k : Int) == 0) = false := by rw [beq_eq_false_iff_ne]; omega
      go_wp2_with fail
      obtain ⟨W2, hW2, c0, hb2, hsz2⟩ := boxes1 w1 #[.bool false, .slice B k d] 66
      rw [hW2]
      clear hW2
      have b2 := b1.below hb2
      have hT2 := ht.keep hb2 hlt
      have hX2 := hX.below hb2
      have G2 := only_below g1 hb2 hs1
      have hs2 := G2.size
      refine wp_region_noPanic ?_
      refine wp_region_held_drew (S := (fun V => V.cell? ⟨w1.heap.size, 0, none⟩ = some (.bool false) ∧ V.cell? ⟨w1.heap.size, 1, none⟩ = some (.slice B k d))) (by kernel_rfl) ?_ (fun hHeld => ?_)
      · exact ⟨c0.cell 0 _ rfl, c0.cell 1 _ rfl⟩
      refine wpAnyH_take (i := 0) (v := ?_) rfl (by kernel_rfl) (by kernel_rfl) (by kernel_rfl) (fun _ _ _ h => h) (Or.inl ⟨by rfl, ?_⟩) (by assumption) ?_
      rotate_left
      · (intro w hSw; (try dsimp only at hSw); go_simp; (try with_reducible rfl))
      simp only [List.getElem_toArray, List.getElem_cons_zero, Act.put, List.setIfInBounds_toArray, List.set_cons_zero, List.set_cons_succ]
      refine wpAnyH_take (i := 1) (v := ?_) rfl (by kernel_rfl) (by kernel_rfl) (by kernel_rfl) (fun _ _ _ h => h) (Or.inl ⟨by rfl, ?_⟩) (by assumption) ?_
      rotate_left
      · (intro w hSw; (try dsimp only at hSw); go_simp; (try with_reducible rfl))
      simp only [List.getElem_toArray, List.getElem_cons_succ, List.getElem_cons_zero, Act.put, List.setIfInBounds_toArray, List.set_cons_zero, List.set_cons_succ]
      refine wpAnyH_take (i := 2) (v := ?_) rfl (by kernel_rfl) (by kernel_rfl) (by kernel_rfl) (fun _ _ _ h => h) (Or.inl ⟨by rfl, ?_⟩) (by assumption) ?_
      rotate_left
      · (intro w hSw; (try dsimp only at hSw); go_simp; (try with_reducible rfl))
      simp only [List.getElem_toArray, List.getElem_cons_succ, List.getElem_cons_zero, Act.put, List.setIfInBounds_toArray, List.set_cons_zero, List.set_cons_succ]
      refine wpAnyH_take (i := 3) (v := ?_) rfl (by kernel_rfl) (by kernel_rfl) (by kernel_rfl) (fun _ _ _ h => h) (Or.inl ⟨by rfl, ?_⟩) (by assumption) ?_
      rotate_left
      · (intro w hSw; (try dsimp only at hSw); go_simp; (try with_reducible rfl))
      simp only [List.getElem_toArray, List.getElem_cons_succ, List.getElem_cons_zero, Act.put, List.setIfInBounds_toArray, List.set_cons_zero, List.set_cons_succ]
      refine wpAnyH_take (i := 4) (v := ?_) rfl (by kernel_rfl) (by kernel_rfl) (by kernel_rfl) (fun _ _ _ h => h) (Or.inl ⟨by rfl, ?_⟩) (by assumption) ?_
      rotate_left
      · (intro w hSw; (try dsimp only at hSw); go_simp; (try with_reducible rfl))
      simp only [List.getElem_toArray, List.getElem_cons_succ, List.getElem_cons_zero, Act.put, List.setIfInBounds_toArray, List.set_cons_zero, List.set_cons_succ]
      refine wpAnyH_take (i := 5) (v := ?_) rfl (by kernel_rfl) (by kernel_rfl) (by kernel_rfl) (fun _ _ _ h => h) (Or.inl ⟨by rfl, ?_⟩) (by assumption) ?_
      rotate_left
      · (intro w hSw; (try dsimp only at hSw); go_simp; (try with_reducible rfl))
      simp only [List.getElem_toArray, List.getElem_cons_succ, List.getElem_cons_zero, Act.put, List.setIfInBounds_toArray, List.set_cons_zero, List.set_cons_succ]
      refine wpAnyH_take (i := 6) (v := ?_) rfl (by kernel_rfl) (by kernel_rfl) (by kernel_rfl) (fun _ _ _ h => h) (Or.inl ⟨by rfl, ?_⟩) (by assumption) ?_
      rotate_left
      · (intro w hSw; (try dsimp only at hSw); go_simp; (try with_reducible rfl))
      simp only [List.getElem_toArray, List.getElem_cons_succ, List.getElem_cons_zero, Act.put, List.setIfInBounds_toArray, List.set_cons_zero, List.set_cons_succ]
      refine wpAnyH_take (i := 7) (v := ?_) rfl (by kernel_rfl) (by kernel_rfl) (by kernel_rfl) (fun _ _ _ h => h) (Or.inl ⟨by rfl, ?_⟩) (by assumption) ?_
      rotate_left
      · (intro w hSw; (try dsimp only at hSw); go_simp; (try with_reducible rfl))
      simp only [List.getElem_toArray, List.getElem_cons_succ, List.getElem_cons_zero, Act.put, List.setIfInBounds_toArray, List.set_cons_zero, List.set_cons_succ]
      refine wpAnyH_take (i := 8) (v := undef) rfl (by kernel_rfl) (by kernel_rfl) (by kernel_rfl) (fun _ _ _ h => h) (Or.inr ⟨by rfl, rfl⟩) (by assumption) ?_
      simp only [List.getElem_toArray, List.getElem_cons_succ, List.getElem_cons_zero, Act.put, List.setIfInBounds_toArray, List.set_cons_zero, List.set_cons_succ]
      refine wpAnyH_take (i := 9) (v := undef) rfl (by kernel_rfl) (by kernel_rfl) (by kernel_rfl) (fun _ _ _ h => h) (Or.inr ⟨by rfl, rfl⟩) (by assumption) ?_
      simp only [List.getElem_toArray, List.getElem_cons_succ, List.getElem_cons_zero, Act.put, List.setIfInBounds_toArray, List.set_cons_zero, List.set_cons_succ]
      refine wpAnyH_take (i := 10) (v := undef) rfl (by kernel_rfl) (by kernel_rfl) (by kernel_rfl) (fun _ _ _ h => h) (Or.inr ⟨by rfl, rfl⟩) (by assumption) ?_
      simp only [List.getElem_toArray, List.getElem_cons_succ, List.getElem_cons_zero, Act.put, List.setIfInBounds_toArray, List.set_cons_zero, List.set_cons_succ]
      refine wpAnyH_take (i := 11) (v := ?_) rfl (by kernel_rfl) (by kernel_rfl) (by kernel_rfl) (fun _ _ _ h => h) (Or.inl ⟨by rfl, ?_⟩) (by assumption) ?_
      rotate_left
      · (intro w hSw; (try dsimp only at hSw); go_simp; (try with_reducible rfl))
      simp only [List.getElem_toArray, List.getElem_cons_succ, List.getElem_cons_zero, Act.put, List.setIfInBounds_toArray, List.set_cons_zero, List.set_cons_succ]
      refine wpAnyH_take (i := 12) (v := ?_) rfl (by kernel_rfl) (by kernel_rfl) (by kernel_rfl) (fun _ _ _ h => h) (Or.inl ⟨by rfl, ?_⟩) (by assumption) ?_
      rotate_left
      · (intro w hSw; (try dsimp only at hSw); go_simp; (try with_reducible rfl))
      simp only [List.getElem_toArray, List.getElem_cons_succ, List.getElem_cons_zero, Act.put, List.setIfInBounds_toArray, List.set_cons_zero, List.set_cons_succ]
      refine wpAnyH_take (i := 13) (v := ?_) rfl (by kernel_rfl) (by kernel_rfl) (by kernel_rfl) (fun _ _ _ h => h) (Or.inl ⟨by rfl, ?_⟩) (by assumption) ?_
      rotate_left
      · (intro w hSw; (try dsimp only at hSw); go_simp; (try with_reducible rfl))
      simp only [List.getElem_toArray, List.getElem_cons_succ, List.getElem_cons_zero, Act.put, List.setIfInBounds_toArray, List.set_cons_zero, List.set_cons_succ]
      refine wpAnyH_take (i := 14) (v := ?_) rfl (by kernel_rfl) (by kernel_rfl) (by kernel_rfl) (fun _ _ _ h => h) (Or.inl ⟨by rfl, ?_⟩) (by assumption) ?_
      rotate_left
      · (intro w hSw; (try dsimp only at hSw); go_simp; (try with_reducible rfl))
      simp only [List.getElem_toArray, List.getElem_cons_succ, List.getElem_cons_zero, Act.put, List.setIfInBounds_toArray, List.set_cons_zero, List.set_cons_succ]
      refine wpAnyH_take (i := 15) (v := ?_) rfl (by kernel_rfl) (by kernel_rfl) (by kernel_rfl) (fun _ _ _ h => h) (Or.inl ⟨by rfl, ?_⟩) (by assumption) ?_
      rotate_left
      · (intro w hSw; (try dsimp only at hSw); go_simp; (try with_reducible rfl))
      simp only [List.getElem_toArray, List.getElem_cons_succ, List.getElem_cons_zero, Act.put, List.setIfInBounds_toArray, List.set_cons_zero, List.set_cons_succ]
      refine wpAnyH_ready (rs := [16]) (by kernel_rfl) (by simp) (AllReadyH.cons (o := _) rfl (fun K hK => ?_) AllReadyH.nil)
      go_simp
      go_at_call 30; refine (next_any (w := W2.drew) 3 (by omega) (by omega) hT2).mono ?_; rintro e w4 ⟨r3, rfl, hr3, hT4, hg4⟩; have p0 := c0.other (w := W2.drew) hg4 (by omega); have P0 := b2.other (w := W2.drew) hg4 (by omega); have G4 := only_trans (only_below G2 (drawn_below _) hs2) hg4; have hlt4 := Nat.lt_of_lt_of_le hb G4.size; have hX4 := NV.other (w := W2.drew) hX2 hT2 hg4; have hs4 := G4.size; have hsr := P0.lt
      go_wp2_with fail
      refine hK.out _ _ ?_ (fun hHeld => ?_)
      · exact ⟨p0.cell 0 _ rfl, p0.cell 1 _ rfl⟩
      clear hK K
      try simp only [List.getElem_toArray, List.getElem_cons_succ, List.getElem_cons_zero, Act.put, List.setIfInBounds_toArray, List.set_cons_zero, List.set_cons_succ]
      refine wpAnyH_ready (rs := [17]) (by kernel_rfl) (by simp) (AllReadyH.cons (o := _) rfl (fun K hK => ?_) AllReadyH.nil)
      go_simp
      go_at_call 31; refine (nats_v (b := w.heap.size) hX4 r3 (by omega) hsr (by omega)).mono ?_; rintro e w5 ⟨B5, k5, d5, rfl, hV, hb5⟩; have u0 := p0.below hb5; have U0 := P0.below hb5; have r0 := U0.cell 0 _ rfl; have r1 := U0.cell 1 _ rfl; have f0 := U0.frozen 0; have f1 := U0.frozen 1; have hT5 := hT4.keep hb5 hlt4; have G5 := only_below G4 hb5 hs4
      go_wp2_with fail
      refine hK.out _ _ ?_ (fun hHeld => ?_)
      · exact ⟨u0.cell 0 _ rfl, u0.cell 1 _ rfl⟩
      clear hK K
      try simp only [List.getElem_toArray, List.getElem_cons_succ, List.getElem_cons_zero, Act.put, List.setIfInBounds_toArray, List.set_cons_zero, List.set_cons_succ]
      refine wpAnyH_take (i := 18) (v := ?_) rfl (by kernel_rfl) (by kernel_rfl) (by kernel_rfl) (fun _ _ _ h => h) (Or.inl ⟨by rfl, ?_⟩) (by assumption) ?_
      rotate_left
      · (intro w hSw; (try dsimp only at hSw); go_simp; (try with_reducible rfl))
      simp only [List.getElem_toArray, List.getElem_cons_succ, List.getElem_cons_zero, Act.put, List.setIfInBounds_toArray, List.set_cons_zero, List.set_cons_succ]
      refine wpAnyH_ready (rs := [19]) (by kernel_rfl) (by simp) (AllReadyH.cons (o := _) rfl (fun K hK => ?_) AllReadyH.nil)
      go_simp
      refine hK.out _ _ ?_ (fun hHeld => ?_)
      · exact ⟨(u0.far (by omega) _ _).cell 0 _ rfl, (u0.far (by omega) _ _).cell 1 _ rfl⟩
      clear hK K
      try simp only [List.getElem_toArray, List.getElem_cons_succ, List.getElem_cons_zero, Act.put, List.setIfInBounds_toArray, List.set_cons_zero, List.set_cons_succ]
      refine wpAnyH_done (by kernel_rfl) ?_ _
      refine NoPanic.normal ?_
      have hbs := below_stored (Below.refl w.heap.size w5) (Nat.le_refl _) (.bool false) (.slice B5 k5 d5)
      have hVf := (hV.other (only_store w5 w.heap.size (.bool false) (.slice B5 k5 d5))).weak (Nat.le_of_lt hb)
      have htf := hT5.keep hbs hb
      have hgf := only_below G5 hbs (Nat.le_refl _)
      have hbx := U0.stored (.bool false) (.slice B5 k5 d5)
      go_wp2_with fail
      refine bodyPost_ret (ret_int rfl rfl hbx) rfl ?_
      exact ⟨_, _, B5, k5, d5, rfl, ⟨x, hVf, rfl⟩, htf, hgf⟩
  · go_wp2_with fail
    obtain ⟨W2, hW2, c0, hb2, hsz2⟩ := boxes1 w1 #[.bool true, .slice B k d] 66
    rw [hW2]
    clear hW2
    have b2 := b1.below hb2
    have hT2 := ht.keep hb2 hlt
    have hX2 := hX.below hb2
    have G2 := only_below g1 hb2 hs1
    have hs2 := G2.size
    refine wp_region_noPanic ?_
    refine wp_region_held_drew (S := (fun V => V.cell? ⟨w1.heap.size, 0, none⟩ = some (.bool true) ∧ V.cell? ⟨w1.heap.size, 1, none⟩ = some (.slice B k d))) (by kernel_rfl) ?_ (fun hHeld => ?_)
    · exact ⟨c0.cell 0 _ rfl, c0.cell 1 _ rfl⟩
    refine wpAnyH_take (i := 0) (v := ?_) rfl (by kernel_rfl) (by kernel_rfl) (by kernel_rfl) (fun _ _ _ h => h) (Or.inl ⟨by rfl, ?_⟩) (by assumption) ?_
    rotate_left
    · (intro w hSw; (try dsimp only at hSw); go_simp; (try with_reducible rfl))
    simp only [List.getElem_toArray, List.getElem_cons_zero, Act.put, List.setIfInBounds_toArray, List.set_cons_zero, List.set_cons_succ]
    refine wpAnyH_take (i := 1) (v := ?_) rfl (by kernel_rfl) (by kernel_rfl) (by kernel_rfl) (fun _ _ _ h => h) (Or.inl ⟨by rfl, ?_⟩) (by assumption) ?_
    rotate_left
    · (intro w hSw; (try dsimp only at hSw); go_simp; (try with_reducible rfl))
    simp only [List.getElem_toArray, List.getElem_cons_succ, List.getElem_cons_zero, Act.put, List.setIfInBounds_toArray, List.set_cons_zero, List.set_cons_succ]
    refine wpAnyH_take (i := 2) (v := ?_) rfl (by kernel_rfl) (by kernel_rfl) (by kernel_rfl) (fun _ _ _ h => h) (Or.inl ⟨by rfl, ?_⟩) (by assumption) ?_
    rotate_left
    · (intro w hSw; (try dsimp only at hSw); go_simp; (try with_reducible rfl))
    simp only [List.getElem_toArray, List.getElem_cons_succ, List.getElem_cons_zero, Act.put, List.setIfInBounds_toArray, List.set_cons_zero, List.set_cons_succ]
    refine wpAnyH_take (i := 3) (v := undef) rfl (by kernel_rfl) (by kernel_rfl) (by kernel_rfl) (fun _ _ _ h => h) (Or.inr ⟨by rfl, rfl⟩) (by assumption) ?_
    simp only [List.getElem_toArray, List.getElem_cons_succ, List.getElem_cons_zero, Act.put, List.setIfInBounds_toArray, List.set_cons_zero, List.set_cons_succ]
    refine wpAnyH_take (i := 4) (v := undef) rfl (by kernel_rfl) (by kernel_rfl) (by kernel_rfl) (fun _ _ _ h => h) (Or.inr ⟨by rfl, rfl⟩) (by assumption) ?_
    simp only [List.getElem_toArray, List.getElem_cons_succ, List.getElem_cons_zero, Act.put, List.setIfInBounds_toArray, List.set_cons_zero, List.set_cons_succ]
    refine wpAnyH_take (i := 5) (v := undef) rfl (by kernel_rfl) (by kernel_rfl) (by kernel_rfl) (fun _ _ _ h => h) (Or.inr ⟨by rfl, rfl⟩) (by assumption) ?_
    simp only [List.getElem_toArray, List.getElem_cons_succ, List.getElem_cons_zero, Act.put, List.setIfInBounds_toArray, List.set_cons_zero, List.set_cons_succ]
    refine wpAnyH_take (i := 6) (v := undef) rfl (by kernel_rfl) (by kernel_rfl) (by kernel_rfl) (fun _ _ _ h => h) (Or.inr ⟨by rfl, rfl⟩) (by assumption) ?_
    simp only [List.getElem_toArray, List.getElem_cons_succ, List.getElem_cons_zero, Act.put, List.setIfInBounds_toArray, List.set_cons_zero, List.set_cons_succ]
    refine wpAnyH_take (i := 7) (v := undef) rfl (by kernel_rfl) (by kernel_rfl) (by kernel_rfl) (fun _ _ _ h => h) (Or.inr ⟨by rfl, rfl⟩) (by assumption) ?_
    simp only [List.getElem_toArray, List.getElem_cons_succ, List.getElem_cons_zero, Act.put, List.setIfInBounds_toArray, List.set_cons_zero, List.set_cons_succ]
    refine wpAnyH_take (i := 8) (v := undef) rfl (by kernel_rfl) (by kernel_rfl) (by kernel_rfl) (fun _ _ _ h => h) (Or.inr ⟨by rfl, rfl⟩) (by assumption) ?_
    simp only [List.getElem_toArray, List.getElem_cons_succ, List.getElem_cons_zero, Act.put, List.setIfInBounds_toArray, List.set_cons_zero, List.set_cons_succ]
    refine wpAnyH_take (i := 9) (v := undef) rfl (by kernel_rfl) (by kernel_rfl) (by kernel_rfl) (fun _ _ _ h => h) (Or.inr ⟨by rfl, rfl⟩) (by assumption) ?_
    simp only [List.getElem_toArray, List.getElem_cons_succ, List.getElem_cons_zero, Act.put, List.setIfInBounds_toArray, List.set_cons_zero, List.set_cons_succ]
    refine wpAnyH_take (i := 10) (v := undef) rfl (by kernel_rfl) (by kernel_rfl) (by kernel_rfl) (fun _ _ _ h => h) (Or.inr ⟨by rfl, rfl⟩) (by assumption) ?_
    simp only [List.getElem_toArray, List.getElem_cons_succ, List.getElem_cons_zero, Act.put, List.setIfInBounds_toArray, List.set_cons_zero, List.set_cons_succ]
    refine wpAnyH_take (i := 11) (v := undef) rfl (by kernel_rfl) (by kernel_rfl) (by kernel_rfl) (fun _ _ _ h => h) (Or.inr ⟨by rfl, rfl⟩) (by assumption) ?_
    simp only [List.getElem_toArray, List.getElem_cons_succ, List.getElem_cons_zero, Act.put, List.setIfInBounds_toArray, List.set_cons_zero, List.set_cons_succ]
    refine wpAnyH_take (i := 12) (v := ?_) rfl (by kernel_rfl) (by kernel_rfl) (by kernel_rfl) (fun _ _ _ h => h) (Or.inl ⟨by rfl, ?_⟩) (by assumption) ?_
    rotate_left
    · (intro w hSw; (try dsimp only at hSw); go_simp; (try with_reducible rfl))
    simp only [List.getElem_toArray, List.getElem_cons_succ, List.getElem_cons_zero, Act.put, List.setIfInBounds_toArray, List.set_cons_zero, List.set_cons_succ]
    refine wpAnyH_take (i := 13) (v := ?_) rfl (by kernel_rfl) (by kernel_rfl) (by kernel_rfl) (fun _ _ _ h => h) (Or.inl ⟨by rfl, ?_⟩) (by assumption) ?_
    rotate_left
    · (intro w hSw; (try dsimp only at hSw); go_simp; (try with_reducible rfl))
    simp only [List.getElem_toArray, List.getElem_cons_succ, List.getElem_cons_zero, Act.put, List.setIfInBounds_toArray, List.set_cons_zero, List.set_cons_succ]
    refine wpAnyH_take (i := 14) (v := ?_) rfl (by kernel_rfl) (by kernel_rfl) (by kernel_rfl) (fun _ _ _ h => h) (Or.inl ⟨by rfl, ?_⟩) (by assumption) ?_
    rotate_left
    · (intro w hSw; (try dsimp only at hSw); go_simp; (try with_reducible rfl))
    simp only [List.getElem_toArray, List.getElem_cons_succ, List.getElem_cons_zero, Act.put, List.setIfInBounds_toArray, List.set_cons_zero, List.set_cons_succ]
    refine wpAnyH_take (i := 15) (v := ?_) rfl (by kernel_rfl) (by kernel_rfl) (by kernel_rfl) (fun _ _ _ h => h) (Or.inl ⟨by rfl, ?_⟩) (by assumption) ?_
    rotate_left
    · (intro w hSw; (try dsimp only at hSw); go_simp; (try with_reducible rfl))
    simp only [List.getElem_toArray, List.getElem_cons_succ, List.getElem_cons_zero, Act.put, List.setIfInBounds_toArray, List.set_cons_zero, List.set_cons_succ]
    refine wpAnyH_ready (rs := [16]) (by kernel_rfl) (by simp) (AllReadyH.cons (o := _) rfl (fun K hK => ?_) AllReadyH.nil)
    go_simp
    go_at_call 30; refine (next_any (w := W2.drew) 3 (by omega) (by omega) hT2).mono ?_; rintro e w4 ⟨r3, rfl, hr3, hT4, hg4⟩; have p0 := c0.other (w := W2.drew) hg4 (by omega); have P0 := b2.other (w := W2.drew) hg4 (by omega); have G4 := only_trans (only_below G2 (drawn_below _) hs2) hg4; have hlt4 := Nat.lt_of_lt_of_le hb G4.size; have hX4 := NV.other (w := W2.drew) hX2 hT2 hg4; have hs4 := G4.size; have hsr := P0.lt
    go_wp2_with fail
    refine hK.out _ _ ?_ (fun hHeld => ?_)
    · exact ⟨p0.cell 0 _ rfl, p0.cell 1 _ rfl⟩
    clear hK K
    try simp only [List.getElem_toArray, List.getElem_cons_succ, List.getElem_cons_zero, Act.put, List.setIfInBounds_toArray, List.set_cons_zero, List.set_cons_succ]
    refine wpAnyH_ready (rs := [17]) (by kernel_rfl) (by simp) (AllReadyH.cons (o := _) rfl (fun K hK => ?_) AllReadyH.nil)
    go_simp
    go_at_call 31; refine (nats_v (b := w.heap.size) hX4 r3 (by omega) hsr (by omega)).mono ?_; rintro e w5 ⟨B5, k5, d5, rfl, hV, hb5⟩; have u0 := p0.below hb5; have U0 := P0.below hb5; have r0 := U0.cell 0 _ rfl; have r1 := U0.cell 1 _ rfl; have f0 := U0.frozen 0; have f1 := U0.frozen 1; have hT5 := hT4.keep hb5 hlt4; have G5 := only_below G4 hb5 hs4
    go_wp2_with fail
    refine hK.out _ _ ?_ (fun hHeld => ?_)
    · exact ⟨u0.cell 0 _ rfl, u0.cell 1 _ rfl⟩
    clear hK K
    try simp only [List.getElem_toArray, List.getElem_cons_succ, List.getElem_cons_zero, Act.put, List.setIfInBounds_toArray, List.set_cons_zero, List.set_cons_succ]
    refine wpAnyH_take (i := 18) (v := ?_) rfl (by kernel_rfl) (by kernel_rfl) (by kernel_rfl) (fun _ _ _ h => h) (Or.inl ⟨by rfl, ?_⟩) (by assumption) ?_
    rotate_left
    · (intro w hSw; (try dsimp only at hSw); go_simp; (try with_reducible rfl))
    simp only [List.getElem_toArray, List.getElem_cons_succ, List.getElem_cons_zero, Act.put, List.setIfInBounds_toArray, List.set_cons_zero, List.set_cons_succ]
    refine wpAnyH_ready (rs := [19]) (by kernel_rfl) (by simp) (AllReadyH.cons (o := _) rfl (fun K hK => ?_) AllReadyH.nil)
    go_simp
    refine hK.out _ _ ?_ (fun hHeld => ?_)
    · exact ⟨(u0.far (by omega) _ _).cell 0 _ rfl, (u0.far (by omega) _ _).cell 1 _ rfl⟩
    clear hK K
    try simp only [List.getElem_toArray, List.getElem_cons_succ, List.getElem_cons_zero, Act.put, List.setIfInBounds_toArray, List.set_cons_zero, List.set_cons_succ]
    refine wpAnyH_done (by kernel_rfl) ?_ _
    refine NoPanic.normal ?_
    have hbs := below_stored (Below.refl w.heap.size w5) (Nat.le_refl _) (.bool true) (.slice B5 k5 d5)
    have hVf := (hV.other (only_store w5 w.heap.size (.bool true) (.slice B5 k5 d5))).weak (Nat.le_of_lt hb)
    have htf := hT5.keep hbs hb
    have hgf := only_below G5 hbs (Nat.le_refl _)
    have hbx := U0.stored (.bool true) (.slice B5 k5 d5)
    go_wp2_with fail
    refine bodyPost_ret (ret_int rfl rfl hbx) rfl ?_
    exact ⟨_, _, B5, k5, d5, rfl, ⟨x, hVf, rfl⟩, htf, hgf⟩
end
end Go.Proofs.YtacfdcfkfjildaaDoor
