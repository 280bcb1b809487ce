/-
  The contracts of package integer: difference, product.
-/
import Derived.Test.YtacfdcfkfjildaaDoorInt2
namespace Go.Proofs.YtacfdcfkfjildaaDoor
open Go.RowKit
section
variable {A A' : Option Addr} {n n' c c' x y L L' : Nat} {s s' : Bool} {z z' : Int} {w : World}
set_option maxRecDepth 100000 in
theorem iadd_ge (hs : (s = true ∧ s' = false) ∨ (s = false ∧ s' = true)) (hx : RV w (.slice A n c) x L) (hy : RV w (.slice A' n' c') y L') (hle : y ≤ x) (hz : sg s (x - y) = z) :
    Calls Tryd.prog 62 #[.agg #[.bool s, .slice A n c], .agg #[.bool s', .slice A' n' c']] w fun e w' => ∃ t B k d, e = .returned (.agg #[.bool t, .slice B k d]) ∧ NI w' t (.slice B k d) z (max L L' + 1) ∧ Below w.heap.size w w' := by
  have HZ := Lib.hid hz
  have HLE := Lib.hid hle
  clear hz hle
  rcases hs with ⟨rfl, rfl⟩ | ⟨rfl, rfl⟩
  · go_enter Tryd.func62, Tryd.ntmps62
    go_wp2_with fail
    obtain ⟨W, hW, b0, b1, b2, hbW, hsz⟩ := boxes3 w #[.bool true, .slice A n c] #[.bool false, .slice A' n' c'] #[.bool false, .slice none 0 0] 64 64 64
    rw [hW]
    have a0 := b0.cell 0 _ rfl
    have a1 := b0.cell 1 _ rfl
    have d0 := b1.cell 0 _ rfl
    have d1 := b1.cell 1 _ rfl
    have hx1 := hx.below hbW
    have hy1 := hy.below hbW
    clear hW hx hy
    go_wp2_with fail
    refine (sub_v hx1 hy1 HLE.out).mono ?_
    rintro e w1 ⟨B, k, d, rfl, hN0, hb1'⟩
    have hN := hN0.more (L' := max L L' + 1) (by omega)
    have q0 := b0.below hb1'
    have q1 := b1.below hb1'
    have q2 := b2.below hb1'
    have e0 := q0.cell 0 _ rfl
    clear a0 a1 d0 d1 hx1 hy1 hN0
    go_wp2_with fail
    refine (signed_v _ hN HZ.out).mono ?_
    rintro e w2 ⟨t, rfl, hI, hb2⟩
    have p2 := q2.below hb2
    have r0 := p2.cell 0 _ rfl
    have r1 := p2.cell 1 _ rfl
    have f0 := p2.frozen 0
    have f1 := p2.frozen 1
    have hbT := hbW.trans ((hb1'.trans (hb2.mono hb1'.size)).mono hbW.size)
    clear q0 q1 q2
    have hI2 := hI.stored p2 (notInt_box _ _ _ _) (.bool t) (.slice B k d)
    have hbf := below_stored (g := w.heap.size + 1 + 1) hbT (by omega) (.bool t) (.slice B k d)
    have hbx := p2.stored (.bool t) (.slice B k d)
    go_wp2_with fail
    refine bodyPost_ret (ret_int rfl rfl hbx) rfl ?_
    exact ⟨t, B, k, d, rfl, hI2, hbf⟩
  · go_enter Tryd.func62, Tryd.ntmps62
    go_wp2_with fail
    obtain ⟨W, hW, b0, b1, b2, hbW, hsz⟩ := boxes3 w #[.bool false, .slice A n c] #[.bool true, .slice A' n' c'] #[.bool false, .slice none 0 0] 64 64 64
    rw [hW]
    have a0 := b0.cell 0 _ rfl
    have a1 := b0.cell 1 _ rfl
    have d0 := b1.cell 0 _ rfl
    have d1 := b1.cell 1 _ rfl
    have hx1 := hx.below hbW
    have hy1 := hy.below hbW
    clear hW hx hy
    go_wp2_with fail
    refine (sub_v hx1 hy1 HLE.out).mono ?_
    rintro e w1 ⟨B, k, d, rfl, hN0, hb1'⟩
    have hN := hN0.more (L' := max L L' + 1) (by omega)
    have q0 := b0.below hb1'
    have q1 := b1.below hb1'
    have q2 := b2.below hb1'
    have e0 := q0.cell 0 _ rfl
    clear a0 a1 d0 d1 hx1 hy1 hN0
    go_wp2_with fail
    refine (signed_v _ hN HZ.out).mono ?_
    rintro e w2 ⟨t, rfl, hI, hb2⟩
    have p2 := q2.below hb2
    have r0 := p2.cell 0 _ rfl
    have r1 := p2.cell 1 _ rfl
    have f0 := p2.frozen 0
    have f1 := p2.frozen 1
    have hbT := hbW.trans ((hb1'.trans (hb2.mono hb1'.size)).mono hbW.size)
    clear q0 q1 q2
    have hI2 := hI.stored p2 (notInt_box _ _ _ _) (.bool t) (.slice B k d)
    have hbf := below_stored (g := w.heap.size + 1 + 1) hbT (by omega) (.bool t) (.slice B k d)
    have hbx := p2.stored (.bool t) (.slice B k d)
    go_wp2_with fail
    refine bodyPost_ret (ret_int rfl rfl hbx) rfl ?_
    exact ⟨t, B, k, d, rfl, hI2, hbf⟩
set_option maxRecDepth 100000 in
theorem iadd_lt (hs : (s = true ∧ s' = false) ∨ (s = false ∧ s' = true)) (hx : RV w (.slice A n c) x L) (hy : RV w (.slice A' n' c') y L') (hlt : x < y) (hz : sg s' (y - x) = z) :
    Calls Tryd.prog 62 #[.agg #[.bool s, .slice A n c], .agg #[.bool s', .slice A' n' c']] w fun e w' => ∃ t B k d, e = .returned (.agg #[.bool t, .slice B k d]) ∧ NI w' t (.slice B k d) z (max L L' + 1) ∧ Below w.heap.size w w' := by
  have HZ := Lib.hid hz
  have HLE := Lib.hid hlt
  clear hz hlt
  rcases hs with ⟨rfl, rfl⟩ | ⟨rfl, rfl⟩
  · go_enter Tryd.func62, Tryd.ntmps62
    go_wp2_with fail
    obtain ⟨W, hW, b0, b1, b2, hbW, hsz⟩ := boxes3 w #[.bool true, .slice A n c] #[.bool false, .slice A' n' c'] #[.bool false, .slice none 0 0] 64 64 64
    rw [hW]
    have a0 := b0.cell 0 _ rfl
    have a1 := b0.cell 1 _ rfl
    have d0 := b1.cell 0 _ rfl
    have d1 := b1.cell 1 _ rfl
    have hx1 := hx.below hbW
    have hy1 := hy.below hbW
    clear hW hx hy
    go_wp2_with fail
    refine (sub_no_v hx1 hy1 HLE.out).mono ?_
    rintro e w0 ⟨rfl, hb0⟩
    have m0 := b0.below hb0
    have m1 := b1.below hb0
    have m2 := b2.below hb0
    have i1 := m0.cell 1 _ rfl
    have j1 := m1.cell 1 _ rfl
    have hx2 := hx1.below hb0
    have hy2 := hy1.below hb0
    clear a0 a1 d0 d1 hx1 hy1
    go_wp2_with fail
    refine (sub_v hy2 hx2 (Nat.le_of_lt HLE.out)).mono ?_
    rintro e w1 ⟨B, k, d, rfl, hN0, hb1⟩
    have hN := hN0.more (L' := max L L' + 1) (by omega)
    have hb1' := hb0.trans (hb1.mono hb0.size)
    have q0 := m0.below hb1
    have q1 := m1.below hb1
    have q2 := m2.below hb1
    have e0 := q1.cell 0 _ rfl
    clear i1 j1 hx2 hy2 hN0 b0 b1 b2 m0 m1 m2
    go_wp2_with fail
    refine (signed_v _ hN HZ.out).mono ?_
    rintro e w2 ⟨t, rfl, hI, hb2⟩
    have p2 := q2.below hb2
    have r0 := p2.cell 0 _ rfl
    have r1 := p2.cell 1 _ rfl
    have f0 := p2.frozen 0
    have f1 := p2.frozen 1
    have hbT := hbW.trans ((hb1'.trans (hb2.mono hb1'.size)).mono hbW.size)
    clear q0 q1 q2
    have hI2 := hI.stored p2 (notInt_box _ _ _ _) (.bool t) (.slice B k d)
    have hbf := below_stored (g := w.heap.size + 1 + 1) hbT (by omega) (.bool t) (.slice B k d)
    have hbx := p2.stored (.bool t) (.slice B k d)
    go_wp2_with fail
    refine bodyPost_ret (ret_int rfl rfl hbx) rfl ?_
    exact ⟨t, B, k, d, rfl, hI2, hbf⟩
  · go_enter Tryd.func62, Tryd.ntmps62
    go_wp2_with fail
    obtain ⟨W, hW, b0, b1, b2, hbW, hsz⟩ := boxes3 w #[.bool false, .slice A n c] #[.bool true, .slice A' n' c'] #[.bool false, .slice none 0 0] 64 64 64
    rw [hW]
    have a0 := b0.cell 0 _ rfl
    have a1 := b0.cell 1 _ rfl
    have d0 := b1.cell 0 _ rfl
    have d1 := b1.cell 1 _ rfl
    have hx1 := hx.below hbW
    have hy1 := hy.below hbW
    clear hW hx hy
    go_wp2_with fail
    refine (sub_no_v hx1 hy1 HLE.out).mono ?_
    rintro e w0 ⟨rfl, hb0⟩
    have m0 := b0.below hb0
    have m1 := b1.below hb0
    have m2 := b2.below hb0
    have i1 := m0.cell 1 _ rfl
    have j1 := m1.cell 1 _ rfl
    have hx2 := hx1.below hb0
    have hy2 := hy1.below hb0
    clear a0 a1 d0 d1 hx1 hy1
    go_wp2_with fail
    refine (sub_v hy2 hx2 (Nat.le_of_lt HLE.out)).mono ?_
    rintro e w1 ⟨B, k, d, rfl, hN0, hb1⟩
    have hN := hN0.more (L' := max L L' + 1) (by omega)
    have hb1' := hb0.trans (hb1.mono hb0.size)
    have q0 := m0.below hb1
    have q1 := m1.below hb1
    have q2 := m2.below hb1
    have e0 := q1.cell 0 _ rfl
    clear i1 j1 hx2 hy2 hN0 b0 b1 b2 m0 m1 m2
    go_wp2_with fail
    refine (signed_v _ hN HZ.out).mono ?_
    rintro e w2 ⟨t, rfl, hI, hb2⟩
    have p2 := q2.below hb2
    have r0 := p2.cell 0 _ rfl
    have r1 := p2.cell 1 _ rfl
    have f0 := p2.frozen 0
    have f1 := p2.frozen 1
    have hbT := hbW.trans ((hb1'.trans (hb2.mono hb1'.size)).mono hbW.size)
    clear q0 q1 q2
    have hI2 := hI.stored p2 (notInt_box _ _ _ _) (.bool t) (.slice B k d)
    have hbf := below_stored (g := w.heap.size + 1 + 1) hbT (by omega) (.bool t) (.slice B k d)
    have hbx := p2.stored (.bool t) (.slice B k d)
    go_wp2_with fail
    refine bodyPost_ret (ret_int rfl rfl hbx) rfl ?_
    exact ⟨t, B, k, d, rfl, hI2, hbf⟩
theorem iadd_v (h : RI w s (.slice A n c) z L) (h' : RI w s' (.slice A' n' c') z' L') (hL : L ≤ 1000000) (hL' : L' ≤ 1000000) :
    Calls Tryd.prog 62 #[.agg #[.bool s, .slice A n c], .agg #[.bool s', .slice A' n' c']] w fun e w' => ∃ t B k d, e = .returned (.agg #[.bool t, .slice B k d]) ∧ NI w' t (.slice B k d) (z + z') (max L L' + 1) ∧ Below w.heap.size w w' := by
  obtain ⟨x, hx, rfl⟩ := h
  obtain ⟨y, hy, rfl⟩ := h'
  by_cases hs : s = s'
  · subst hs
    exact iadd_same s hx hy hL hL' (by cases s <;> simp [sg] <;> omega)
  · have hs' : (s = true ∧ s' = false) ∨ (s = false ∧ s' = true) := by cases s <;> cases s' <;> simp_all
    rcases Nat.lt_or_ge x y with hlt | hle
    · exact iadd_lt hs' hx hy hlt (by rcases hs' with ⟨rfl, rfl⟩ | ⟨rfl, rfl⟩ <;> simp [sg] <;> omega)
    · exact iadd_ge hs' hx hy hle (by rcases hs' with ⟨rfl, rfl⟩ | ⟨rfl, rfl⟩ <;> simp [sg] <;> omega)
set_option maxRecDepth 100000 in
theorem isub_v (h : RI w s (.slice A n c) z L) (h' : RI w s' (.slice A' n' c') z' L') (hL : L ≤ 1000000) (hL' : L' ≤ 1000000) :
    Calls Tryd.prog 64 #[.agg #[.bool s, .slice A n c], .agg #[.bool s', .slice A' n' c']] w fun e w' => ∃ t B k d, e = .returned (.agg #[.bool t, .slice B k d]) ∧ NI w' t (.slice B k d) (z - z') (max L L' + 1) ∧ Below w.heap.size w w' := by
    go_enter Tryd.func64, Tryd.ntmps64
    go_wp2_with fail
    obtain ⟨W, hW, b0, b1, b2, hbW, hsz⟩ := boxes3 w #[.bool s, .slice A n c] #[.bool (!s'), .slice A' n' c'] #[.bool false, .slice none 0 0] 64 64 64
    rw [hW]
    have H := iadd_v (h.below hbW) (h'.flip.below hbW) hL hL'
    rw [show z + -z' = z - z' by omega] at H
    clear hW
    refine H.mono ?_
    rintro e w2 ⟨t, B, k, d, rfl, hI, hb2⟩
    have p2 := b2.below hb2
    have r0 := p2.cell 0 _ rfl
    have r1 := p2.cell 1 _ rfl
    have f0 := p2.frozen 0
    have f1 := p2.frozen 1
    have hbT := hbW.trans (hb2.mono hbW.size)
    clear H b0 b1 b2
    have hI2 := hI.stored p2 (notInt_box _ _ _ _) (.bool t) (.slice B k d)
    have hbf := below_stored (g := w.heap.size + 1 + 1) hbT (by omega) (.bool t) (.slice B k d)
    have hbx := p2.stored (.bool t) (.slice B k d)
    go_wp2_with fail
    refine bodyPost_ret (ret_int rfl rfl hbx) rfl ?_
    exact ⟨t, B, k, d, rfl, hI2, hbf⟩
set_option maxRecDepth 100000 in
theorem imul_v (h : RI w s (.slice A n c) z L) (h' : RI w s' (.slice A' n' c') z' L') (hL : L ≤ 1000000) (hL' : L' ≤ 1000000) :
    Calls Tryd.prog 65 #[.agg #[.bool s, .slice A n c], .agg #[.bool s', .slice A' n' c']] w fun e w' => ∃ t B k d, e = .returned (.agg #[.bool t, .slice B k d]) ∧ NI w' t (.slice B k d) (z * z') (L + L') ∧ Below w.heap.size w w' := by
  obtain ⟨x, hx, rfl⟩ := h
  obtain ⟨y, hy, rfl⟩ := h'
  have hz : sg (s != s') (x * y) = sg s x * sg s' y := by
    cases s <;> cases s' <;> simp [sg, Int.neg_mul, Int.mul_neg]
  have HZ := Lib.hid hz
  clear hz
  generalize sg s x * sg s' y = z at *
  go_enter Tryd.func65, Tryd.ntmps65
  go_wp2_with fail
  obtain ⟨W, hW, b0, b1, b2, hbW, hsz⟩ := boxes3 w #[.bool s, .slice A n c] #[.bool s', .slice A' n' c'] #[.bool false, .slice none 0 0] 64 64 64
  rw [hW]
  have a0 := b0.cell 0 _ rfl
  have a1 := b0.cell 1 _ rfl
  have d0 := b1.cell 0 _ rfl
  have d1 := b1.cell 1 _ rfl
  have hx1 := hx.below hbW
  have hy1 := hy.below hbW
  clear hW hx hy
  go_region_held3 (fun V => V.cell? ⟨w.heap.size, 0, none⟩ = some (.bool s) ∧ V.cell? ⟨w.heap.size, 1, none⟩ = some (.slice A n c) ∧ V.cell? ⟨w.heap.size + 1, 0, none⟩ = some (.bool s') ∧ V.cell? ⟨w.heap.size + 1, 1, none⟩ = some (.slice A' n' c')) (first | exact ⟨a0, a1, d0, d1⟩ | exact HC | exact KC | exact ⟨(p0.far (by omega) _ _).cell 0 _ rfl, (p0.far (by omega) _ _).cell 1 _ rfl, (p1.far (by omega) _ _).cell 0 _ rfl, (p1.far (by omega) _ _).cell 1 _ rfl⟩ | go_keep)
    (first
      | (go_at_call 24; refine (mul_v (w := W.drew) hx1 hy1 hL hL').mono ?_; rintro e w1 ⟨B, k, d, rfl, hN, hb1⟩; have hb1' := below_drawn hb1; have q0 := b0.below hb1'; have q1 := b1.below hb1'; have q2 := b2.below hb1'; have HC := And.intro (q0.cell 0 _ rfl) (And.intro (q0.cell 1 _ rfl) (And.intro (q1.cell 0 _ rfl) (q1.cell 1 _ rfl))))
      | (go_at_call 106; refine (signed_v _ hN HZ.out).mono ?_; rintro e w2 ⟨t, rfl, hI, hb2⟩; have p0 := q0.below hb2; have p1 := q1.below hb2; have p2 := q2.below hb2; have KC := And.intro (p0.cell 0 _ rfl) (And.intro (p0.cell 1 _ rfl) (And.intro (p1.cell 0 _ rfl) (p1.cell 1 _ rfl))); have r0 := p2.cell 0 _ rfl; have r1 := p2.cell 1 _ rfl; have f0 := p2.frozen 0; have f1 := p2.frozen 1; have hbT := hbW.trans ((hb1'.trans (hb2.mono hb1'.size)).mono hbW.size)))
  have hI2 := hI.stored p2 (notInt_box _ _ _ _) (.bool t) (.slice B k d)
  have hbf := below_stored (g := w.heap.size + 1 + 1) hbT (by omega) (.bool t) (.slice B k d)
  have hbx := p2.stored (.bool t) (.slice B k d)
  go_wp2_with fail
  refine bodyPost_ret (ret_int rfl rfl hbx) rfl ?_
  exact ⟨t, B, k, d, rfl, hI2, hbf⟩
end
end Go.Proofs.YtacfdcfkfjildaaDoor
