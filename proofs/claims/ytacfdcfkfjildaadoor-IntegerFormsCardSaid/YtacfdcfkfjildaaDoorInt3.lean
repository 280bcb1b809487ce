/-
  The contracts of package integer: quotient and remainder; FromInt; the chapter's first example.
-/
import Derived.Test.YtacfdcfkfjildaaDoorInt2b
import Derived.Test.YtacfdcfkfjildaaDoorKnown
import Derived.Test.YtacfdcfkfjildaaDoorForms
namespace Go.Proofs.YtacfdcfkfjildaaDoor
open Go.RowKit

section
variable {A A' : Option Addr} {n n' c c' x y L L' : Nat} {s s' : Bool} {z z' : Int} {w : World}
/-- Two results that lie in blocks, and one that does not. -/
theorem ret_int2 {fn : Func} {p q r : Tmp} (h : fn.results = #[.cell p 64, .cell q 64, .tmp r]) {tmps : Array Value} {w : World} {g g' : Nat} {a b a' b' : Value} {t t' : TypeId} (hp : tmps.getD p undef = .pointer (some ⟨g, 0, none⟩)) (hq : tmps.getD q undef = .pointer (some ⟨g', 0, none⟩)) (hb : Box w g #[a, b] t) (hb' : Box w g' #[a', b'] t') :
    (results fn tmps).run Tryd.prog w = .ok (.tuple #[.agg #[a, b], .agg #[a', b'], tmps.getD r undef]) w := by
  have hp' : tmps[p]?.getD undef = .pointer (some ⟨g, 0, none⟩) := by simpa using hp
  have hq' : tmps[q]?.getD undef = .pointer (some ⟨g', 0, none⟩) := by simpa using hq
  have h1 := run_loadVar_row (P := Tryd.prog) w g t 64 #[a, b] (0, 0) _ hb Tryd.underlying64 rfl info_int
  have h2 := run_loadVar_row (P := Tryd.prog) w g' t' 64 #[a', b'] (0, 0) _ hb' Tryd.underlying64 rfl info_int
  simp [results, h, hp', hq', asAddr, h1, h2]
set_option maxRecDepth 100000 in
theorem idivmod_zero (h : RI w s (.slice A n c) z L) (h' : RI w s' (.slice A' n' c') 0 L') :
    Calls Tryd.prog 57 #[.agg #[.bool s, .slice A n c], .agg #[.bool s', .slice A' n' c']] w fun e w' => e = .returned (.tuple #[.agg #[.bool false, .slice none 0 0], .agg #[.bool false, .slice none 0 0], .bool false]) ∧ Below w.heap.size w w' := by
    have hx := h.rv
    have hy := h'.rv
    rw [Int.natAbs_zero] at hy
    clear h h'
    go_enter Tryd.func57, Tryd.ntmps57
    go_wp2_with fail
    obtain ⟨W, hW, b0, b1, b2, b3, hbW, hsz⟩ := boxes4 w #[.bool s, .slice A n c] #[.bool s', .slice A' n' c'] #[.bool false, .slice none 0 0] #[.bool false, .slice none 0 0] 64 64 64 64
    rw [hW]
    clear hW
    refine (divmod0_v (hx.below hbW) (hy.below hbW)).mono ?_
    rintro e v2 ⟨rfl, hb⟩
    have z0 := b0.below hb
    have z1 := b1.below hb
    have z2 := b2.below hb
    have z3 := b3.below hb
    have hbT := hbW.trans (hb.mono hbW.size)
    have r0 := z2.cell 0 _ rfl
    have r1 := z2.cell 1 _ rfl
    have f0 := z2.frozen 0
    have f1 := z2.frozen 1
    have r2 := z3.cell 0 _ rfl
    have r3 := z3.cell 1 _ rfl
    have f2 := z3.frozen 0
    have f3 := z3.frozen 1
    have u3 := z3.far (g' := w.heap.size + 1 + 1) (by omega) (.bool false) (.slice none 0 0)
    have u2 := z2.stored (.bool false) (.slice none 0 0)
    have x3 := u3.stored (.bool false) (.slice none 0 0)
    have x2 := u2.far (g' := w.heap.size + 1 + 1 + 1) (by omega) (.bool false) (.slice none 0 0)
    have hbf := below_stored (g := w.heap.size + 1 + 1 + 1) (below_stored (g := w.heap.size + 1 + 1) hbT (by omega) (.bool false) (.slice none 0 0)) (by omega) (.bool false) (.slice none 0 0)
    go_wp2_with fail
    refine bodyPost_ret (ret_int2 rfl rfl rfl x2 x3) rfl ?_
    exact ⟨rfl, hbf⟩
theorem divmod_qr {q r : Nat} {W : World} (hx : RV w (.slice A n c) x L) (hy : RV w (.slice A' n' c') y L') (hy0 : 0 < y) (hL : L ≤ 1000000) (hq : x / y = q) (hr : x % y = r) (hbW : Below w.heap.size w W) :
    Calls Tryd.prog 18 #[.slice A n c, .slice A' n' c'] W fun e w' => ∃ B k d B' k' d', e = .returned (.tuple #[.slice B k d, .slice B' k' d', .bool true]) ∧ NV w' (.slice B k d) q L ∧ NV w' (.slice B' k' d') r L' ∧ Below W.heap.size W w' := by
  subst hq hr
  exact divmod_v (hx.below hbW) (hy.below hbW) hy0 hL
set_option maxRecDepth 100000 in
/-- A dividend that is not negative. -/
theorem idivmod_pos {q r : Nat} {zq zr : Int} (hx : RV w (.slice A n c) x L) (hy : RV w (.slice A' n' c') y L') (hy0 : 0 < y) (hL : L ≤ 1000000) (hq : x / y = q) (hr : x % y = r) (hzq : sg s' q = zq) (hzr : sg false r = zr) :
    Calls Tryd.prog 57 #[.agg #[.bool false, .slice A n c], .agg #[.bool s', .slice A' n' c']] w fun e w' => ∃ t B k d t' B' k' d', e = .returned (.tuple #[.agg #[.bool t, .slice B k d], .agg #[.bool t', .slice B' k' d'], .bool true]) ∧ NI w' t (.slice B k d) zq (max L 2 + 1) ∧ NI w' t' (.slice B' k' d') zr L' ∧ Below w.heap.size w w' := by
  have HH := Lib.hid (fun W hbW => divmod_qr (W := W) hx hy hy0 hL hq hr hbW)
  have HQ := Lib.hid hzq
  have HR := Lib.hid hzr
  clear hx hy hq hr hzq hzr hy0
  go_enter Tryd.func57, Tryd.ntmps57
  go_wp2_with fail
  obtain ⟨W, hW, b0, b1, b2, b3, hbW, hsz⟩ := boxes4 w #[.bool false, .slice A n c] #[.bool s', .slice A' n' c'] #[.bool false, .slice none 0 0] #[.bool false, .slice none 0 0] 64 64 64 64
  rw [hW]
  clear hW
  refine ((HH.out W hbW)).mono ?_
  rintro e w1 ⟨B, k, d, B', k', d', rfl, hQ, hR, hb⟩
  have m0 := b0.below hb
  have m1 := b1.below hb
  have m2 := b2.below hb
  have m3 := b3.below hb
  have g0 := m0.cell 0 _ rfl
  have g1 := m1.cell 0 _ rfl
  have hB1 := hbW.trans (hb.mono hbW.size)
  clear b0 b1 b2 b3
  have hQ2 := hQ.more (L' := max L 2 + 1) (by omega)
  go_wp2_with fail
  refine (signed_v _ hQ2 HQ.out).mono ?_
  rintro e v1 ⟨t, rfl, hI, hc1⟩
  have y0 := m0.below hc1
  have y1 := m1.below hc1
  have y2 := m2.below hc1
  have y3 := m3.below hc1
  have hR1 := NV.below hR hc1
  clear hQ2
  go_wp2_with fail
  refine (signed_v _ hR1 HR.out).mono ?_
  rintro e v2 ⟨t', rfl, hI', hc2⟩
  have z0 := y0.below hc2
  have z1 := y1.below hc2
  have z2 := y2.below hc2
  have z3 := y3.below hc2
  have hI2 := hI.below hc2
  clear y0 y1 y2 y3 hI hR1
  have hbT := hB1.trans ((hc1.trans (hc2.mono hc1.size)).mono hB1.size)
  have r0 := z2.cell 0 _ rfl
  have r1 := z2.cell 1 _ rfl
  have f0 := z2.frozen 0
  have f1 := z2.frozen 1
  have r2 := z3.cell 0 _ rfl
  have r3 := z3.cell 1 _ rfl
  have f2 := z3.frozen 0
  have f3 := z3.frozen 1
  have u3 := z3.far (g' := w.heap.size + 1 + 1) (by omega) (.bool t) (.slice B k d)
  have u2 := z2.stored (.bool t) (.slice B k d)
  have x3 := u3.stored (.bool t') (.slice B' k' d')
  have x2 := u2.far (g' := w.heap.size + 1 + 1 + 1) (by omega) (.bool t') (.slice B' k' d')
  have hF := (hI2.stored z2 (notInt_box _ _ _ _) (.bool t) (.slice B k d)).stored u3 (notInt_box _ _ _ _) (.bool t') (.slice B' k' d')
  have hG := (hI'.stored z2 (notInt_box _ _ _ _) (.bool t) (.slice B k d)).stored u3 (notInt_box _ _ _ _) (.bool t') (.slice B' k' d')
  have hbf := below_stored (g := w.heap.size + 1 + 1 + 1) (below_stored (g := w.heap.size + 1 + 1) hbT (by omega) (.bool t) (.slice B k d)) (by omega) (.bool t') (.slice B' k' d')
  go_wp2_with fail
  refine bodyPost_ret (ret_int2 rfl rfl rfl x2 x3) rfl ?_
  exact ⟨t, _, _, _, t', _, _, _, rfl, hF, hG, hbf⟩
set_option maxRecDepth 100000 in
/-- A negative dividend without a remainder. -/
theorem idivmod_even {q : Nat} {zq : Int} (hx : RV w (.slice A n c) x L) (hy : RV w (.slice A' n' c') y L') (hy0 : 0 < y) (hL : L ≤ 1000000) (hq : x / y = q) (hr : x % y = 0) (hzq : sg (!s') q = zq) :
    Calls Tryd.prog 57 #[.agg #[.bool true, .slice A n c], .agg #[.bool s', .slice A' n' c']] w fun e w' => ∃ t B k d t' B' k' d', e = .returned (.tuple #[.agg #[.bool t, .slice B k d], .agg #[.bool t', .slice B' k' d'], .bool true]) ∧ NI w' t (.slice B k d) zq (max L 2 + 1) ∧ NI w' t' (.slice B' k' d') 0 L' ∧ Below w.heap.size w w' := by
  have HH := Lib.hid (fun W hbW => divmod_qr (W := W) hx hy hy0 hL hq hr hbW)
  have HQ := Lib.hid hzq
  clear hx hy hq hr hzq hy0
  cases s'
  · go_enter Tryd.func57, Tryd.ntmps57
    go_wp2_with fail
    obtain ⟨W, hW, b0, b1, b2, b3, hbW, hsz⟩ := boxes4 w #[.bool true, .slice A n c] #[.bool false, .slice A' n' c'] #[.bool false, .slice none 0 0] #[.bool false, .slice none 0 0] 64 64 64 64
    rw [hW]
    clear hW
    refine ((HH.out W hbW)).mono ?_
    rintro e w1 ⟨B, k, d, B', k', d', rfl, hQ, hR, hb⟩
    have m0 := b0.below hb
    have m1 := b1.below hb
    have m2 := b2.below hb
    have m3 := b3.below hb
    have g0 := m0.cell 0 _ rfl
    have g1 := m1.cell 0 _ rfl
    have hB1 := hbW.trans (hb.mono hbW.size)
    clear b0 b1 b2 b3
    have hQ2 := hQ.more (L' := max L 2 + 1) (by omega)
    have hk0 : k' = 0 := by have h := (Raw.cap hR.1).1; rw [digs_zero] at h; exact h
    subst hk0
    go_wp2_with fail
    refine (signed_v _ hQ2 HQ.out).mono ?_
    rintro e v1 ⟨t, rfl, hI, hc1⟩
    have y0 := m0.below hc1
    have y1 := m1.below hc1
    have y2 := m2.below hc1
    have y3 := m3.below hc1
    have hR1 := NV.below hR hc1
    clear hQ2
    go_wp2_with fail
    refine (signed_v _ hR1 (z := 0) rfl).mono ?_
    rintro e v2 ⟨t', rfl, hI', hc2⟩
    have z0 := y0.below hc2
    have z1 := y1.below hc2
    have z2 := y2.below hc2
    have z3 := y3.below hc2
    have hI2 := hI.below hc2
    clear y0 y1 y2 y3 hI hR1
    have hbT := hB1.trans ((hc1.trans (hc2.mono hc1.size)).mono hB1.size)
    have r0 := z2.cell 0 _ rfl
    have r1 := z2.cell 1 _ rfl
    have f0 := z2.frozen 0
    have f1 := z2.frozen 1
    have r2 := z3.cell 0 _ rfl
    have r3 := z3.cell 1 _ rfl
    have f2 := z3.frozen 0
    have f3 := z3.frozen 1
    have u3 := z3.far (g' := w.heap.size + 1 + 1) (by omega) (.bool t) (.slice B k d)
    have u2 := z2.stored (.bool t) (.slice B k d)
    have x3 := u3.stored (.bool t') (.slice B' 0 d')
    have x2 := u2.far (g' := w.heap.size + 1 + 1 + 1) (by omega) (.bool t') (.slice B' 0 d')
    have hF := (hI2.stored z2 (notInt_box _ _ _ _) (.bool t) (.slice B k d)).stored u3 (notInt_box _ _ _ _) (.bool t') (.slice B' 0 d')
    have hG := (hI'.stored z2 (notInt_box _ _ _ _) (.bool t) (.slice B k d)).stored u3 (notInt_box _ _ _ _) (.bool t') (.slice B' 0 d')
    have hbf := below_stored (g := w.heap.size + 1 + 1 + 1) (below_stored (g := w.heap.size + 1 + 1) hbT (by omega) (.bool t) (.slice B k d)) (by omega) (.bool t') (.slice B' 0 d')
    go_wp2_with fail
    refine bodyPost_ret (ret_int2 rfl rfl rfl x2 x3) rfl ?_
    exact ⟨t, _, _, _, t', _, _, _, rfl, hF, hG, hbf⟩
  · go_enter Tryd.func57, Tryd.ntmps57
    go_wp2_with fail
    obtain ⟨W, hW, b0, b1, b2, b3, hbW, hsz⟩ := boxes4 w #[.bool true, .slice A n c] #[.bool true, .slice A' n' c'] #[.bool false, .slice none 0 0] #[.bool false, .slice none 0 0] 64 64 64 64
    rw [hW]
    clear hW
    refine ((HH.out W hbW)).mono ?_
    rintro e w1 ⟨B, k, d, B', k', d', rfl, hQ, hR, hb⟩
    have m0 := b0.below hb
    have m1 := b1.below hb
    have m2 := b2.below hb
    have m3 := b3.below hb
    have g0 := m0.cell 0 _ rfl
    have g1 := m1.cell 0 _ rfl
    have hB1 := hbW.trans (hb.mono hbW.size)
    clear b0 b1 b2 b3
    have hQ2 := hQ.more (L' := max L 2 + 1) (by omega)
    have hk0 : k' = 0 := by have h := (Raw.cap hR.1).1; rw [digs_zero] at h; exact h
    subst hk0
    go_wp2_with fail
    refine (signed_v _ hQ2 HQ.out).mono ?_
    rintro e v1 ⟨t, rfl, hI, hc1⟩
    have y0 := m0.below hc1
    have y1 := m1.below hc1
    have y2 := m2.below hc1
    have y3 := m3.below hc1
    have hR1 := NV.below hR hc1
    clear hQ2
    go_wp2_with fail
    refine (signed_v _ hR1 (z := 0) rfl).mono ?_
    rintro e v2 ⟨t', rfl, hI', hc2⟩
    have z0 := y0.below hc2
    have z1 := y1.below hc2
    have z2 := y2.below hc2
    have z3 := y3.below hc2
    have hI2 := hI.below hc2
    clear y0 y1 y2 y3 hI hR1
    have hbT := hB1.trans ((hc1.trans (hc2.mono hc1.size)).mono hB1.size)
    have r0 := z2.cell 0 _ rfl
    have r1 := z2.cell 1 _ rfl
    have f0 := z2.frozen 0
    have f1 := z2.frozen 1
    have r2 := z3.cell 0 _ rfl
    have r3 := z3.cell 1 _ rfl
    have f2 := z3.frozen 0
    have f3 := z3.frozen 1
    have u3 := z3.far (g' := w.heap.size + 1 + 1) (by omega) (.bool t) (.slice B k d)
    have u2 := z2.stored (.bool t) (.slice B k d)
    have x3 := u3.stored (.bool t') (.slice B' 0 d')
    have x2 := u2.far (g' := w.heap.size + 1 + 1 + 1) (by omega) (.bool t') (.slice B' 0 d')
    have hF := (hI2.stored z2 (notInt_box _ _ _ _) (.bool t) (.slice B k d)).stored u3 (notInt_box _ _ _ _) (.bool t') (.slice B' 0 d')
    have hG := (hI'.stored z2 (notInt_box _ _ _ _) (.bool t) (.slice B k d)).stored u3 (notInt_box _ _ _ _) (.bool t') (.slice B' 0 d')
    have hbf := below_stored (g := w.heap.size + 1 + 1 + 1) (below_stored (g := w.heap.size + 1 + 1) hbT (by omega) (.bool t) (.slice B k d)) (by omega) (.bool t') (.slice B' 0 d')
    go_wp2_with fail
    refine bodyPost_ret (ret_int2 rfl rfl rfl x2 x3) rfl ?_
    exact ⟨t, _, _, _, t', _, _, _, rfl, hF, hG, hbf⟩
set_option maxRecDepth 100000 in
/-- A negative dividend with a remainder. -/
theorem idivmod_odd {q r : Nat} {zq zr : Int} (hx : RV w (.slice A n c) x L) (hy : RV w (.slice A' n' c') y L') (hy0 : 0 < y) (hL : L ≤ 1000000) (hq : x / y = q) (hr : x % y = r) (hr0 : 0 < r) (hzq : sg (!s') (q + 1) = zq) (hzr : sg false (y - r) = zr) :
    Calls Tryd.prog 57 #[.agg #[.bool true, .slice A n c], .agg #[.bool s', .slice A' n' c']] w fun e w' => ∃ t B k d t' B' k' d', e = .returned (.tuple #[.agg #[.bool t, .slice B k d], .agg #[.bool t', .slice B' k' d'], .bool true]) ∧ NI w' t (.slice B k d) zq (max L 2 + 1) ∧ NI w' t' (.slice B' k' d') zr L' ∧ Below w.heap.size w w' := by
  have HH := Lib.hid (fun W hbW => divmod_qr (W := W) hx hy hy0 hL hq hr hbW)
  have hry : r ≤ y := by rw [← hr]; exact Nat.le_of_lt (Nat.mod_lt _ hy0)
  have HRY := Lib.hid hry
  have HQ := Lib.hid hzq
  have HR := Lib.hid hzr
  have HR0 := Lib.hid hr0
  clear hx hq hr hzq hzr hy0 hr0 hry
  cases s'
  · go_enter Tryd.func57, Tryd.ntmps57
    go_wp2_with fail
    obtain ⟨W, hW, b0, b1, b2, b3, hbW, hsz⟩ := boxes4 w #[.bool true, .slice A n c] #[.bool false, .slice A' n' c'] #[.bool false, .slice none 0 0] #[.bool false, .slice none 0 0] 64 64 64 64
    rw [hW]
    clear hW
    refine ((HH.out W hbW)).mono ?_
    rintro e w1 ⟨B, k, d, B', k', d', rfl, hQ, hR, hb⟩
    have m0 := b0.below hb
    have m1 := b1.below hb
    have m2 := b2.below hb
    have m3 := b3.below hb
    have g0 := m0.cell 0 _ rfl
    have g1 := m1.cell 0 _ rfl
    have hB1 := hbW.trans (hb.mono hbW.size)
    clear b0 b1 b2 b3
    have hk0 : 0 < k' := by rw [(Raw.cap hR.1).1]; exact digs_length_pos HR0.out
    go_wp2_with fail
    refine (fromuint_v 1 (by omega) _).mono ?_
    rintro e w2 ⟨B1, k1, d1, rfl, hO, hb2⟩
    have hR2 := hR.below hb2
    have hQ2 := hQ.below hb2
    have n0 := m0.below hb2
    have n1 := m1.below hb2
    have n2 := m2.below hb2
    have n3 := m3.below hb2
    have hB2 := hB1.trans (hb2.mono hB1.size)
    clear hb2 hR hQ m0 m1 m2 m3 g0 g1
    go_wp2_with fail
    refine (add_v hQ2.rv hO.rv hL (by omega)).mono ?_
    rintro e w3 ⟨B3, k3, d3, rfl, hQ3, hb4⟩
    have hR3 := hR2.below hb4
    have o0 := n0.below hb4
    have o1 := n1.below hb4
    have o2 := n2.below hb4
    have o3 := n3.below hb4
    have g1 := o1.cell 1 _ rfl
    have hB3 := hB2.trans (hb4.mono hB2.size)
    have hy3 := hy.below hB3
    clear hb4 hR2 hQ2 hO n0 n1 n2 n3 hB2
    go_wp2_with fail
    refine (sub_v hy3 hR3.rv HRY.out).mono ?_
    rintro e w4 ⟨B4, k4, d4, rfl, hR4, hb6⟩
    have hQ4 := hQ3.below hb6
    have q0 := o0.below hb6
    have q1 := o1.below hb6
    have q2 := o2.below hb6
    have q3 := o3.below hb6
    have g0 := q0.cell 0 _ rfl
    have hB4 := hB3.trans (hb6.mono hB3.size)
    clear hb6 hR3 hQ3 hy3 o0 o1 o2 o3 g1
    go_wp2_with fail
    refine (signed_v _ hQ4 HQ.out).mono ?_
    rintro e v1 ⟨t, rfl, hI, hc1⟩
    have y0 := q0.below hc1
    have y1 := q1.below hc1
    have y2 := q2.below hc1
    have y3 := q3.below hc1
    have hR1 := NV.below hR4 hc1
    clear hQ4
    go_wp2_with fail
    refine (signed_v _ hR1 HR.out).mono ?_
    rintro e v2 ⟨t', rfl, hI', hc2⟩
    have z0 := y0.below hc2
    have z1 := y1.below hc2
    have z2 := y2.below hc2
    have z3 := y3.below hc2
    have hI2 := hI.below hc2
    clear y0 y1 y2 y3 hI hR1
    have hbT := hB4.trans ((hc1.trans (hc2.mono hc1.size)).mono hB4.size)
    have r0 := z2.cell 0 _ rfl
    have r1 := z2.cell 1 _ rfl
    have f0 := z2.frozen 0
    have f1 := z2.frozen 1
    have r2 := z3.cell 0 _ rfl
    have r3 := z3.cell 1 _ rfl
    have f2 := z3.frozen 0
    have f3 := z3.frozen 1
    have u3 := z3.far (g' := w.heap.size + 1 + 1) (by omega) (.bool t) (.slice B3 k3 d3)
    have u2 := z2.stored (.bool t) (.slice B3 k3 d3)
    have x3 := u3.stored (.bool t') (.slice B4 k4 d4)
    have x2 := u2.far (g' := w.heap.size + 1 + 1 + 1) (by omega) (.bool t') (.slice B4 k4 d4)
    have hF := (hI2.stored z2 (notInt_box _ _ _ _) (.bool t) (.slice B3 k3 d3)).stored u3 (notInt_box _ _ _ _) (.bool t') (.slice B4 k4 d4)
    have hG := (hI'.stored z2 (notInt_box _ _ _ _) (.bool t) (.slice B3 k3 d3)).stored u3 (notInt_box _ _ _ _) (.bool t') (.slice B4 k4 d4)
    have hbf := below_stored (g := w.heap.size + 1 + 1 + 1) (below_stored (g := w.heap.size + 1 + 1) hbT (by omega) (.bool t) (.slice B3 k3 d3)) (by omega) (.bool t') (.slice B4 k4 d4)
    go_wp2_with fail
    refine bodyPost_ret (ret_int2 rfl rfl rfl x2 x3) rfl ?_
    exact ⟨t, _, _, _, t', _, _, _, rfl, hF, hG, hbf⟩
  · go_enter Tryd.func57, Tryd.ntmps57
    go_wp2_with fail
    obtain ⟨W, hW, b0, b1, b2, b3, hbW, hsz⟩ := boxes4 w #[.bool true, .slice A n c] #[.bool true, .slice A' n' c'] #[.bool false, .slice none 0 0] #[.bool false, .slice none 0 0] 64 64 64 64
    rw [hW]
    clear hW
    refine ((HH.out W hbW)).mono ?_
    rintro e w1 ⟨B, k, d, B', k', d', rfl, hQ, hR, hb⟩
    have m0 := b0.below hb
    have m1 := b1.below hb
    have m2 := b2.below hb
    have m3 := b3.below hb
    have g0 := m0.cell 0 _ rfl
    have g1 := m1.cell 0 _ rfl
    have hB1 := hbW.trans (hb.mono hbW.size)
    clear b0 b1 b2 b3
    have hk0 : 0 < k' := by rw [(Raw.cap hR.1).1]; exact digs_length_pos HR0.out
    go_wp2_with fail
    refine (fromuint_v 1 (by omega) _).mono ?_
    rintro e w2 ⟨B1, k1, d1, rfl, hO, hb2⟩
    have hR2 := hR.below hb2
    have hQ2 := hQ.below hb2
    have n0 := m0.below hb2
    have n1 := m1.below hb2
    have n2 := m2.below hb2
    have n3 := m3.below hb2
    have hB2 := hB1.trans (hb2.mono hB1.size)
    clear hb2 hR hQ m0 m1 m2 m3 g0 g1
    go_wp2_with fail
    refine (add_v hQ2.rv hO.rv hL (by omega)).mono ?_
    rintro e w3 ⟨B3, k3, d3, rfl, hQ3, hb4⟩
    have hR3 := hR2.below hb4
    have o0 := n0.below hb4
    have o1 := n1.below hb4
    have o2 := n2.below hb4
    have o3 := n3.below hb4
    have g1 := o1.cell 1 _ rfl
    have hB3 := hB2.trans (hb4.mono hB2.size)
    have hy3 := hy.below hB3
    clear hb4 hR2 hQ2 hO n0 n1 n2 n3 hB2
    go_wp2_with fail
    refine (sub_v hy3 hR3.rv HRY.out).mono ?_
    rintro e w4 ⟨B4, k4, d4, rfl, hR4, hb6⟩
    have hQ4 := hQ3.below hb6
    have q0 := o0.below hb6
    have q1 := o1.below hb6
    have q2 := o2.below hb6
    have q3 := o3.below hb6
    have g0 := q0.cell 0 _ rfl
    have hB4 := hB3.trans (hb6.mono hB3.size)
    clear hb6 hR3 hQ3 hy3 o0 o1 o2 o3 g1
    go_wp2_with fail
    refine (signed_v _ hQ4 HQ.out).mono ?_
    rintro e v1 ⟨t, rfl, hI, hc1⟩
    have y0 := q0.below hc1
    have y1 := q1.below hc1
    have y2 := q2.below hc1
    have y3 := q3.below hc1
    have hR1 := NV.below hR4 hc1
    clear hQ4
    go_wp2_with fail
    refine (signed_v _ hR1 HR.out).mono ?_
    rintro e v2 ⟨t', rfl, hI', hc2⟩
    have z0 := y0.below hc2
    have z1 := y1.below hc2
    have z2 := y2.below hc2
    have z3 := y3.below hc2
    have hI2 := hI.below hc2
    clear y0 y1 y2 y3 hI hR1
    have hbT := hB4.trans ((hc1.trans (hc2.mono hc1.size)).mono hB4.size)
    have r0 := z2.cell 0 _ rfl
    have r1 := z2.cell 1 _ rfl
    have f0 := z2.frozen 0
    have f1 := z2.frozen 1
    have r2 := z3.cell 0 _ rfl
    have r3 := z3.cell 1 _ rfl
    have f2 := z3.frozen 0
    have f3 := z3.frozen 1
    have u3 := z3.far (g' := w.heap.size + 1 + 1) (by omega) (.bool t) (.slice B3 k3 d3)
    have u2 := z2.stored (.bool t) (.slice B3 k3 d3)
    have x3 := u3.stored (.bool t') (.slice B4 k4 d4)
    have x2 := u2.far (g' := w.heap.size + 1 + 1 + 1) (by omega) (.bool t') (.slice B4 k4 d4)
    have hF := (hI2.stored z2 (notInt_box _ _ _ _) (.bool t) (.slice B3 k3 d3)).stored u3 (notInt_box _ _ _ _) (.bool t') (.slice B4 k4 d4)
    have hG := (hI'.stored z2 (notInt_box _ _ _ _) (.bool t) (.slice B3 k3 d3)).stored u3 (notInt_box _ _ _ _) (.bool t') (.slice B4 k4 d4)
    have hbf := below_stored (g := w.heap.size + 1 + 1 + 1) (below_stored (g := w.heap.size + 1 + 1) hbT (by omega) (.bool t) (.slice B3 k3 d3)) (by omega) (.bool t') (.slice B4 k4 d4)
    go_wp2_with fail
    refine bodyPost_ret (ret_int2 rfl rfl rfl x2 x3) rfl ?_
    exact ⟨t, _, _, _, t', _, _, _, rfl, hF, hG, hbf⟩
/-- What quotient and remainder are. -/
def QR (z z' zq zr : Int) : Prop := z = zq * z' + zr ∧ 0 ≤ zr ∧ zr < z'.natAbs
theorem qr_pos {x y : Nat} (s' : Bool) (hy0 : 0 < y) : QR (sg false x) (sg s' y) (sg s' (x / y)) (sg false (x % y)) := by
  have h := Nat.div_add_mod x y
  have h2 := Nat.mod_lt x hy0
  refine ⟨?_, by rw [sg_false]; exact Int.natCast_nonneg _, by rw [sg_abs, sg_false]; omega⟩
  cases s' <;> simp only [sg_true, sg_false, Int.neg_mul_neg] <;> rw [← Int.natCast_mul, Nat.mul_comm (x / y) y, ← Int.natCast_add, h]
theorem qr_even {x y : Nat} (s' : Bool) (hy0 : 0 < y) (hr : x % y = 0) : QR (sg true x) (sg s' y) (sg (!s') (x / y)) 0 := by
  have h := Nat.div_add_mod x y
  rw [hr, Nat.add_zero] at h
  refine ⟨?_, by omega, by rw [sg_abs]; omega⟩
  cases s' <;> simp only [sg_true, sg_false, Bool.not_true, Bool.not_false, Int.neg_mul, Int.mul_neg, Int.add_zero] <;> rw [← Int.natCast_mul, Nat.mul_comm (x / y) y, h]
theorem qr_odd {x y : Nat} (s' : Bool) (hy0 : 0 < y) (hr : 0 < x % y) : QR (sg true x) (sg s' y) (sg (!s') (x / y + 1)) (sg false (y - x % y)) := by
  have h := Nat.div_add_mod x y
  have h2 := Nat.mod_lt x hy0
  refine ⟨?_, by rw [sg_false]; exact Int.natCast_nonneg _, by rw [sg_abs, sg_false]; omega⟩
  have e : ((x / y + 1 : Nat) : Int) * (y : Int) = (x : Int) + (y - x % y : Nat) := by
    rw [← Int.natCast_mul, Nat.add_mul, Nat.one_mul, Nat.mul_comm (x / y) y]; omega
  cases s' <;> simp only [sg_true, sg_false, Bool.not_true, Bool.not_false, Int.neg_mul, Int.mul_neg] <;> rw [e] <;> omega
theorem idivmod_v (h : RI w s (.slice A n c) z L) (h' : RI w s' (.slice A' n' c') z' L') (h0 : z' ≠ 0) (hL : L ≤ 1000000) :
    Calls Tryd.prog 57 #[.agg #[.bool s, .slice A n c], .agg #[.bool s', .slice A' n' c']] w fun e w' => ∃ zq zr t B k d t' B' k' d', e = .returned (.tuple #[.agg #[.bool t, .slice B k d], .agg #[.bool t', .slice B' k' d'], .bool true]) ∧ NI w' t (.slice B k d) zq (max L 2 + 1) ∧ NI w' t' (.slice B' k' d') zr L' ∧ QR z z' zq zr ∧ Below w.heap.size w w' := by
  obtain ⟨x, hx, rfl⟩ := h
  obtain ⟨y, hy, rfl⟩ := h'
  have hy0 : 0 < y := by rcases Nat.eq_zero_or_pos y with rfl | h; · exact absurd (by cases s' <;> rfl) h0
                         · exact h
  cases s
  · refine (idivmod_pos (s' := s') hx hy hy0 hL rfl rfl rfl rfl).mono ?_
    rintro e w' ⟨t, B, k, d, t', B', k', d', he, h1, h2, hb⟩
    exact ⟨_, _, t, B, k, d, t', B', k', d', he, h1, h2, qr_pos s' hy0, hb⟩
  · rcases Nat.eq_zero_or_pos (x % y) with hr | hr
    · refine (idivmod_even (s' := s') hx hy hy0 hL rfl hr rfl).mono ?_
      rintro e w' ⟨t, B, k, d, t', B', k', d', he, h1, h2, hb⟩
      exact ⟨_, _, t, B, k, d, t', B', k', d', he, h1, h2, qr_even s' hy0 hr, hb⟩
    · refine (idivmod_odd (s' := s') hx hy hy0 hL rfl rfl hr rfl rfl).mono ?_
      rintro e w' ⟨t, B, k, d, t', B', k', d', he, h1, h2, hb⟩
      exact ⟨_, _, t, B, k, d, t', B', k', d', he, h1, h2, qr_odd s' hy0 hr, hb⟩
end
theorem wrap_pos {m : Int} (h0 : 0 ≤ m) (h : m < 9223372036854775808) : IntKind.u64.wrap m = m := by
  simp [IntKind.wrap, IntKind.bits, IntKind.signed]; omega
set_option maxRecDepth 100000 in
theorem ifromint_pos (m : Nat) (hm : m < 9223372036854775808) (w : World) :
    Calls Tryd.prog 46 #[.int .i64 (m : Int)] w fun e w' => ∃ t B k d, e = .returned (.agg #[.bool t, .slice B k d]) ∧ NI w' t (.slice B k d) (m : Int) 2 ∧ Below w.heap.size w w' := by
  have hw := wrap_pos (m := (m : Int)) (by omega) (by omega)
  have hm2 : m < 18446744073709551616 := by omega
  go_enter Tryd.func46, Tryd.ntmps46
  go_wp2_with fail
  obtain ⟨W, hW, b0, hbW, hsz⟩ := boxes1 w #[.bool false, .slice none 0 0] 64
  rw [hW]
  refine (fromuint_v m hm2 _).mono ?_
  rintro e w1 ⟨B, k, d, rfl, hN, hb⟩
  have q0 := b0.below hb
  clear hW
  go_wp2_with fail
  refine (signed_v _ hN (z := (m : Int)) rfl).mono ?_
  rintro e w2 ⟨t, rfl, hI, hb2⟩
  have p0 := q0.below hb2
  have r0 := p0.cell 0 _ rfl
  have r1 := p0.cell 1 _ rfl
  have f0 := p0.frozen 0
  have f1 := p0.frozen 1
  have hbT := hbW.trans ((hb.trans (hb2.mono hb.size)).mono hbW.size)
  have hI2 := hI.stored p0 (notInt_box _ _ _ _) (.bool t) (.slice B k d)
  have hbf := below_stored (g := w.heap.size) hbT (by omega) (.bool t) (.slice B k d)
  have hbx := p0.stored (.bool t) (.slice B k d)
  clear b0 q0
  go_wp2_with fail
  refine bodyPost_ret (ret_int rfl rfl hbx) rfl ?_
  exact ⟨t, B, k, d, rfl, hI2, hbf⟩
set_option maxRecDepth 100000 in
theorem ifromint_neg (m : Nat) (hm : m ≤ 9223372036854775808) (hm0 : 0 < m) (w : World) :
    Calls Tryd.prog 46 #[.int .i64 (-(m : Int))] w fun e w' => ∃ t B k d, e = .returned (.agg #[.bool t, .slice B k d]) ∧ NI w' t (.slice B k d) (-(m : Int)) 2 ∧ Below w.heap.size w w' := by
  have hm2 : m < 18446744073709551616 := by omega
  have hw : IntKind.u64.wrap (-(m : Int)) = 18446744073709551616 - (m : Int) := by simp [IntKind.wrap, IntKind.bits, IntKind.signed]; omega
  have hw2 : IntKind.u64.wrap (-(18446744073709551616 - (m : Int))) = (m : Int) := by simp [IntKind.wrap, IntKind.bits, IntKind.signed]; omega
  go_enter Tryd.func46, Tryd.ntmps46
  go_wp2_with fail
  obtain ⟨W, hW, b0, hbW, hsz⟩ := boxes1 w #[.bool false, .slice none 0 0] 64
  rw [hW]
  refine (fromuint_v m hm2 _).mono ?_
  rintro e w1 ⟨B, k, d, rfl, hN, hb⟩
  have q0 := b0.below hb
  clear hW
  go_wp2_with fail
  refine (signed_v _ hN (z := (-(m : Int))) rfl).mono ?_
  rintro e w2 ⟨t, rfl, hI, hb2⟩
  have p0 := q0.below hb2
  have r0 := p0.cell 0 _ rfl
  have r1 := p0.cell 1 _ rfl
  have f0 := p0.frozen 0
  have f1 := p0.frozen 1
  have hbT := hbW.trans ((hb.trans (hb2.mono hb.size)).mono hbW.size)
  have hI2 := hI.stored p0 (notInt_box _ _ _ _) (.bool t) (.slice B k d)
  have hbf := below_stored (g := w.heap.size) hbT (by omega) (.bool t) (.slice B k d)
  have hbx := p0.stored (.bool t) (.slice B k d)
  clear b0 q0
  go_wp2_with fail
  refine bodyPost_ret (ret_int rfl rfl hbx) rfl ?_
  exact ⟨t, B, k, d, rfl, hI2, hbf⟩
theorem ifromint_v (z : Int) (h0 : -9223372036854775808 ≤ z) (h1 : z ≤ 9223372036854775807) (w : World) :
    Calls Tryd.prog 46 #[.int .i64 z] w fun e w' => ∃ t B k d, e = .returned (.agg #[.bool t, .slice B k d]) ∧ NI w' t (.slice B k d) z 2 ∧ Below w.heap.size w w' := by
  rcases Int.lt_trichotomy z 0 with h | h | h
  · obtain ⟨m, rfl⟩ : ∃ m : Nat, z = -(m : Int) := ⟨z.natAbs, by omega⟩
    exact ifromint_neg m (by omega) (by omega) w
  · obtain ⟨m, rfl⟩ : ∃ m : Nat, z = (m : Int) := ⟨z.natAbs, by omega⟩
    exact ifromint_pos m (by omega) w
  · obtain ⟨m, rfl⟩ : ∃ m : Nat, z = (m : Int) := ⟨z.natAbs, by omega⟩
    exact ifromint_pos m (by omega) w
end Go.Proofs.YtacfdcfkfjildaaDoor
