/-
  Made, Made2, CmpI, RefI in one text.
-/
import Derived.Test.YthmmnmajkeoaaabGreatDoorOK5
import Derived.Test.YthmmnmajkeoaaabGreatDoorOK7
namespace Go.Proofs.YthmmnmajkeoaaabGreatDoor
open Go.RowKit

section
variable {A A' : Option Addr} {n n' c c' x y L L' : Nat} {s s' : Bool} {z z' : Int} {w : World}
theorem info_intN : (Tryz.prog.info? 47).map (·.size) = some 2 := by kernel_rfl
theorem ret_intN {fn : Func} {p : Tmp} (h : fn.results = #[.cell p 47]) {tmps : Array Value} {w : World} {g : Nat} {a b : Value} {t : TypeId} (hp : tmps.getD p undef = .pointer (some ⟨g, 0, none⟩)) (hb : Box w g #[a, b] t) :
    (results fn tmps).run Tryz.prog w = .ok (.agg #[a, b]) w :=
  results_cell_row h tmps w g t #[a, b] (0, 0) _ hp hb Tryz.underlying47 rfl info_intN
theorem Box.other {w w' : World} {g b : Nat} {cs : Array Value} {t : TypeId} (h : Box w g cs t) (hg : w.grownBy w' (some b)) (hne : g ≠ b) : Box w' g cs t :=
  (hg.block g h.lt (by intro e; injection e with e; exact hne e)).trans h
theorem nmake_any (s : Bool) (h : NV w (.slice A n c) x L) :
    Calls Tryz.prog 64 #[.bool s, .slice A n c] w fun e w' => e = .returned (.agg #[.bool (decide (sg s x < 0)), .slice A n c]) ∧ Below w.heap.size w w' := by
  have hn := (Raw.cap h.1).1
  rw [sg_neg]
  rcases Nat.eq_zero_or_pos x with rfl | h0
  · have hn0 : n = 0 := by rw [digs_zero] at hn; exact hn
    subst hn0
    clear h hn
    cases s
    all_goals
      go_enter Tryz.func64, Tryz.ntmps64
      go_wp2_with fail
      go_returns
      exact ⟨rfl, below_alloc w _⟩
  · have hnp : 0 < n := by rw [hn]; exact digs_length_pos h0
    have hd : decide (0 < x) = true := decide_eq_true h0
    rw [hd]
    clear h hn hd h0
    cases s
    all_goals
      go_enter Tryz.func64, Tryz.ntmps64
      go_wp2_with fail
      go_returns
      exact ⟨rfl, below_alloc w _⟩
theorem nmake_v (s : Bool) (h : NV w (.slice A n c) x L) (hz : sg s x = z) :
    Calls Tryz.prog 64 #[.bool s, .slice A n c] w fun e w' => ∃ t, e = .returned (.agg #[.bool t, .slice A n c]) ∧ NI w' t (.slice A n c) z L ∧ Below w.heap.size w w' := by
  refine (nmake_any s h).mono ?_
  rintro e w' ⟨rfl, hb⟩
  subst hz
  exact ⟨_, rfl, ⟨by rw [sg_abs]; exact h.below hb, rfl⟩, hb⟩
theorem drawn_below (w : World) : Below w.heap.size w w.drew := (below_drewN (Below.refl _ w) 1)
/-- A number is kept where only the tape is written. -/
theorem NV.other {w w' : World} {v : Value} {x L b : Nat} (h : NV w v x L) (ht : Tape w b) (hg : w.grownBy w' (some b)) : NV w' v x L := by
  obtain ⟨A, n, c, t, h1, _⟩ := ht
  exact ⟨Raw.keepBut h.1 hg (Raw.apart h.1 (cs := #[.slice A n c, .int .i64 (t : Int)]) h1 (by simp [notInt])), h.2⟩
end
end Go.Proofs.YthmmnmajkeoaaabGreatDoor
namespace Go.Proofs.YthmmnmajkeoaaabGreatDoor
open Go.RowKit

end Go.Proofs.YthmmnmajkeoaaabGreatDoor
namespace Go.Proofs.YthmmnmajkeoaaabGreatDoor
open Go.RowKit

section
variable {A A' : Option Addr} {n n' c c' L L' : Nat} {s s' : Bool} {z z' k : Int} {w : World}
theorem icmp_is (h : RI w s (.slice A n c) z L) (h' : RI w s' (.slice A' n' c') z' L') (hk : (z - z').sign = k) :
    Calls Tryz.prog 75 #[.agg #[.bool s, .slice A n c], .agg #[.bool s', .slice A' n' c']] w fun e w' => e = .returned (.int .i64 k) ∧ Below w.heap.size w w' := by
  subst hk; exact icmp_v h h'
end
end Go.Proofs.YthmmnmajkeoaaabGreatDoor
namespace Go.Proofs.YthmmnmajkeoaaabGreatDoor
open Go.RowKit

section
variable {A A' : Option Addr} {n n' c c' x y L L' : Nat} {s s' : Bool} {z z' k : Int} {w : World} {ds : List Nat}
set_option maxRecDepth 100000 in
theorem refI_v (h : RI w s (.slice A n c) z L) :
    Calls Tryz.prog 55 #[.agg #[.bool s, .slice A n c]] w fun e w' => ∃ t B k d, e = .returned (.agg #[.bool t, .slice B k d]) ∧ NI w' t (.slice B k d) z L ∧ Below w.heap.size w w' := by
  have hz := h.sg.symm
  have hr := h.rv
  have HZ := Lib.hid hz
  clear h hz
  go_enter Tryz.func55, Tryz.ntmps55
  go_wp2_with fail
  obtain ⟨W, hW, b0, b1, hbW, hsz⟩ := boxes2 w #[.bool s, .slice A n c] #[.bool false, .slice none 0 0] 61 47
  rw [hW]
  clear hW
  have hr1 := hr.below (hbW.trans ((drawn_below W).mono hbW.size))
  go_region_held3 (fun V => V.cell? ⟨w.heap.size, 0, none⟩ = some (.bool s) ∧ V.cell? ⟨w.heap.size, 1, none⟩ = some (.slice A n c)) (first | exact KC | exact HC | exact (And.intro (b0.cell 0 _ rfl) (b0.cell 1 _ rfl)) | exact ⟨(p0.far (by omega) _ _).cell 0 _ rfl, (p0.far (by omega) _ _).cell 1 _ rfl⟩ | go_keep)
    (first
      | (go_at_call 53; refine (n_v hr1).mono ?_; rintro e w1 ⟨B, k, d, rfl, hN, hb1⟩; have hb1' := below_drawn hb1; have q0 := b0.below hb1'; have q1 := b1.below hb1'; have HC := (And.intro (q0.cell 0 _ rfl) (q0.cell 1 _ rfl)))
      | (go_at_call 64; refine (nmake_v _ hN HZ.out).mono ?_; rintro e w2 ⟨t, rfl, hI, hb2⟩; have p0 := q0.below hb2; have p1 := q1.below hb2; have KC := (And.intro (p0.cell 0 _ rfl) (p0.cell 1 _ rfl)); have r0 := p1.cell 0 _ rfl; have r1 := p1.cell 1 _ rfl; have f0 := p1.frozen 0; have f1 := p1.frozen 1; have hbT := hbW.trans ((hb1'.trans (hb2.mono hb1'.size)).mono hbW.size))
    )
  have hF := hI.stored p1 (notInt_box _ _ _ _) (.bool t) (.slice B k d)
  have hbf := below_stored (g := w.heap.size + 1) hbT (by omega) (.bool t) (.slice B k d)
  have hbx := p1.stored (.bool t) (.slice B k d)
  go_wp2_with fail
  refine bodyPost_ret (ret_intN rfl rfl hbx) rfl ?_
  exact ⟨t, B, k, d, rfl, hF, hbf⟩
set_option maxRecDepth 100000 in
theorem nminus_v (h : NI w s (.slice A n c) z L) :
    Calls Tryz.prog 91 #[.agg #[.bool s, .slice A n c]] w fun e w' => ∃ t, e = .returned (.agg #[.bool t, .slice A n c]) ∧ NI w' t (.slice A n c) (-z) L ∧ Below w.heap.size w w' := by
  have hz := h.ri.flip.sg.symm
  rw [Int.natAbs_neg] at hz
  have hN := h.1
  have HZ := Lib.hid hz
  clear h hz
  go_enter Tryz.func91, Tryz.ntmps91
  go_wp2_with fail
  obtain ⟨W, hW, b0, b1, hbW, hsz⟩ := boxes2 w #[.bool s, .slice A n c] #[.bool false, .slice none 0 0] 47 47
  rw [hW]
  clear hW
  refine (nmake_v _ (hN.below hbW) HZ.out).mono ?_
  rintro e w2 ⟨t, rfl, hI, hb2⟩
  have p1 := b1.below hb2
  have r0 := p1.cell 0 _ rfl
  have r1 := p1.cell 1 _ rfl
  have f0 := p1.frozen 0
  have f1 := p1.frozen 1
  have hbT := hbW.trans (hb2.mono hbW.size)
  have hF := hI.stored p1 (notInt_box _ _ _ _) (.bool t) (.slice A n c)
  have hbf := below_stored (g := w.heap.size + 1) hbT (by omega) (.bool t) (.slice A n c)
  have hbx := p1.stored (.bool t) (.slice A n c)
  go_wp2_with fail
  refine bodyPost_ret (ret_intN rfl rfl hbx) rfl ?_
  exact ⟨t, rfl, hF, hbf⟩
/-- The reference's sign. -/
theorem nsign_v (h : NI w s (.slice A n c) z L) (hk : z.sign = k) :
    Calls Tryz.prog 36 #[.agg #[.bool s, .slice A n c]] w fun e w' => e = .returned (.int .i64 k) ∧ Below w.heap.size w w' := by
  subst hk
  have hn := (Raw.cap h.1.1).1
  have hs := h.2
  rcases sign_cases z with ⟨h1, h2⟩ | ⟨h1, h2⟩ | ⟨h1, h2⟩
  · have hnp : 0 < n := by rw [hn]; exact digs_length_pos (by omega)
    have hn0 : ((n : Int) == 0) = false := by rw [beq_eq_false_iff_ne]; omega
    have hst : s = true := by rw [hs]; exact decide_eq_true h1
    subst hst
    rw [h2]
    clear h hn hs h1 h2
    go_enter Tryz.func36, Tryz.ntmps36
    go_wp2_with fail
    go_returns
    exact ⟨rfl, below_alloc w _⟩
  · have hn0 : n = 0 := by rw [h1, Int.natAbs_zero, digs_zero] at hn; exact hn
    subst hn0
    rw [h2]
    clear h hn hs h1 h2
    go_enter Tryz.func36, Tryz.ntmps36
    go_wp2_with fail
    go_returns
    exact ⟨rfl, below_alloc w _⟩
  · have hnp : 0 < n := by rw [hn]; exact digs_length_pos (by omega)
    have hn0 : ((n : Int) == 0) = false := by rw [beq_eq_false_iff_ne]; omega
    have hst : s = false := by rw [hs]; exact decide_eq_false (by omega)
    subst hst
    rw [h2]
    clear h hn hs h1 h2
    go_enter Tryz.func36, Tryz.ntmps36
    go_wp2_with fail
    go_returns
    exact ⟨rfl, below_alloc w _⟩
set_option maxRecDepth 100000 in
theorem nadd_same (s : Bool) (hx : NV w (.slice A n c) x L) (hy : NV w (.slice A' n' c') y L') (hL : L ≤ 1000000) (hL' : L' ≤ 1000000) (hz : sg s (x + y) = z) :
    Calls Tryz.prog 63 #[.agg #[.bool s, .slice A n c], .agg #[.bool s, .slice A' n' c']] w fun e w' => ∃ t B k d, e = .returned (.agg #[.bool t, .slice B k d]) ∧ NI w' t (.slice B k d) z (max L L' + 1) ∧ Below w.heap.size w w' := by
  have HZ := Lib.hid hz
  have hbd := add_lt_Bs hx.2 hy.2
  have hl1 : n < 1000000000 := by rw [(Raw.cap hx.1).1]; have := digs_length_le hx.2; omega
  have hl2 : n' < 1000000000 := by rw [(Raw.cap hy.1).1]; have := digs_length_le hy.2; omega
  have HBD := Lib.hid hbd
  have HN := Lib.hid (fun W (hb : Below w.heap.size w W) => nsum_is (Num.below hx.1 hb) (Num.below hy.1 hb) hl1 hl2)
  clear hz hbd hl1 hl2 hx hy
  cases s
  · go_enter Tryz.func63, Tryz.ntmps63
    go_wp2_with fail
    obtain ⟨W, hW, b0, b1, b2, hbW, hsz⟩ := boxes3 w #[.bool false, .slice A n c] #[.bool false, .slice A' n' c'] #[.bool false, .slice none 0 0] 47 47 47
    rw [hW]
    clear hW
    have HD := HN.out W.drew (hbW.trans ((drawn_below W).mono hbW.size))
    go_region_held3 (fun V => V.cell? ⟨w.heap.size, 0, none⟩ = some (.bool false) ∧ V.cell? ⟨w.heap.size, 1, none⟩ = some (.slice A n c) ∧ V.cell? ⟨w.heap.size + 1, 0, none⟩ = some (.bool false) ∧ V.cell? ⟨w.heap.size + 1, 1, none⟩ = some (.slice A' n' c')) (first | exact KC | exact HC | exact (And.intro (b0.cell 0 _ rfl) (And.intro (b0.cell 1 _ rfl) (And.intro (b1.cell 0 _ rfl) (b1.cell 1 _ rfl)))) | exact ⟨(p0.far (by omega) _ _).cell 0 _ rfl, (p0.far (by omega) _ _).cell 1 _ rfl, (p1.far (by omega) _ _).cell 0 _ rfl, (p1.far (by omega) _ _).cell 1 _ rfl⟩ | go_keep)
      (first
        | (go_at_call 92; refine HD.mono ?_; rintro e w1 ⟨B, k, d, rfl, hN, hb1⟩; have hV : NV w1 (.slice B k d) (x + y) (max L L' + 1) := ⟨hN, HBD.out⟩; have hb1' := below_drawn hb1; have q0 := b0.below hb1'; have q1 := b1.below hb1'; have q2 := b2.below hb1'; have HC := (And.intro (q0.cell 0 _ rfl) (And.intro (q0.cell 1 _ rfl) (And.intro (q1.cell 0 _ rfl) (q1.cell 1 _ rfl)))))
        | (go_at_call 64; refine (nmake_v _ hV HZ.out).mono ?_; rintro e w2 ⟨t, rfl, hI, hb2⟩; have p0 := q0.below hb2; have p1 := q1.below hb2; have p2 := q2.below hb2; have KC := (And.intro (p0.cell 0 _ rfl) (And.intro (p0.cell 1 _ rfl) (And.intro (p1.cell 0 _ rfl) (p1.cell 1 _ rfl)))); have r0 := p2.cell 0 _ rfl; have r1 := p2.cell 1 _ rfl; have f0 := p2.frozen 0; have f1 := p2.frozen 1; have hbT := hbW.trans ((hb1'.trans (hb2.mono hb1'.size)).mono hbW.size))
      )
    have hF := hI.stored p2 (notInt_box _ _ _ _) (.bool t) (.slice B k d)
    have hbf := below_stored (g := w.heap.size + 1 + 1) hbT (by omega) (.bool t) (.slice B k d)
    have hbx := p2.stored (.bool t) (.slice B k d)
    go_wp2_with fail
    refine bodyPost_ret (ret_intN rfl rfl hbx) rfl ?_
    exact ⟨t, B, k, d, rfl, hF, hbf⟩
  · go_enter Tryz.func63, Tryz.ntmps63
    go_wp2_with fail
    obtain ⟨W, hW, b0, b1, b2, hbW, hsz⟩ := boxes3 w #[.bool true, .slice A n c] #[.bool true, .slice A' n' c'] #[.bool false, .slice none 0 0] 47 47 47
    rw [hW]
    clear hW
    have HD := HN.out W.drew (hbW.trans ((drawn_below W).mono hbW.size))
    go_region_held3 (fun V => V.cell? ⟨w.heap.size, 0, none⟩ = some (.bool true) ∧ V.cell? ⟨w.heap.size, 1, none⟩ = some (.slice A n c) ∧ V.cell? ⟨w.heap.size + 1, 0, none⟩ = some (.bool true) ∧ V.cell? ⟨w.heap.size + 1, 1, none⟩ = some (.slice A' n' c')) (first | exact KC | exact HC | exact (And.intro (b0.cell 0 _ rfl) (And.intro (b0.cell 1 _ rfl) (And.intro (b1.cell 0 _ rfl) (b1.cell 1 _ rfl)))) | exact ⟨(p0.far (by omega) _ _).cell 0 _ rfl, (p0.far (by omega) _ _).cell 1 _ rfl, (p1.far (by omega) _ _).cell 0 _ rfl, (p1.far (by omega) _ _).cell 1 _ rfl⟩ | go_keep)
      (first
        | (go_at_call 92; refine HD.mono ?_; rintro e w1 ⟨B, k, d, rfl, hN, hb1⟩; have hV : NV w1 (.slice B k d) (x + y) (max L L' + 1) := ⟨hN, HBD.out⟩; have hb1' := below_drawn hb1; have q0 := b0.below hb1'; have q1 := b1.below hb1'; have q2 := b2.below hb1'; have HC := (And.intro (q0.cell 0 _ rfl) (And.intro (q0.cell 1 _ rfl) (And.intro (q1.cell 0 _ rfl) (q1.cell 1 _ rfl)))))
        | (go_at_call 64; refine (nmake_v _ hV HZ.out).mono ?_; rintro e w2 ⟨t, rfl, hI, hb2⟩; have p0 := q0.below hb2; have p1 := q1.below hb2; have p2 := q2.below hb2; have KC := (And.intro (p0.cell 0 _ rfl) (And.intro (p0.cell 1 _ rfl) (And.intro (p1.cell 0 _ rfl) (p1.cell 1 _ rfl)))); have r0 := p2.cell 0 _ rfl; have r1 := p2.cell 1 _ rfl; have f0 := p2.frozen 0; have f1 := p2.frozen 1; have hbT := hbW.trans ((hb1'.trans (hb2.mono hb1'.size)).mono hbW.size))
      )
    have hF := hI.stored p2 (notInt_box _ _ _ _) (.bool t) (.slice B k d)
    have hbf := below_stored (g := w.heap.size + 1 + 1) hbT (by omega) (.bool t) (.slice B k d)
    have hbx := p2.stored (.bool t) (.slice B k d)
    go_wp2_with fail
    refine bodyPost_ret (ret_intN rfl rfl hbx) rfl ?_
    exact ⟨t, B, k, d, rfl, hF, hbf⟩
theorem ncmp_at {r : Int} (hX : Num w (.slice A n c) x) (hY : Num w (.slice A' n' c') y) (hr : cmpI x y = r) :
    Calls Tryz.prog 86 #[.slice A n c, .slice A' n' c'] w fun e w' => e = .returned (.int .i64 r) ∧ ∃ j, w' = w.drewN j := by
  subst hr; exact ncmp_is hX hY
set_option maxRecDepth 100000 in
theorem nadd_ge (hs : (s = true ∧ s' = false) ∨ (s = false ∧ s' = true)) (hx : NV w (.slice A n c) x L) (hy : NV w (.slice A' n' c') y L') (hL : L ≤ 1000000) (hle : y ≤ x) (hz : sg s (x - y) = z) :
    Calls Tryz.prog 63 #[.agg #[.bool s, .slice A n c], .agg #[.bool s', .slice A' n' c']] w fun e w' => ∃ t B k d, e = .returned (.agg #[.bool t, .slice B k d]) ∧ NI w' t (.slice B k d) z (max L L' + 1) ∧ Below w.heap.size w w' := by
  have HZ := Lib.hid hz
  have hl1 : n < 1000000000 := by rw [(Raw.cap hx.1).1]; have := digs_length_le hx.2; omega
  have hbd : x - y < Bs (max L L' + 1) := Nat.lt_of_le_of_lt (Nat.sub_le _ _) (Nat.lt_of_lt_of_le hx.2 (Bs_mono (by omega)))
  obtain ⟨r, hr, hr0⟩ : ∃ r : Int, cmpI x y = r ∧ 0 ≤ r := by
    rcases Nat.lt_or_ge y x with h1 | h1
    · exact ⟨1, cmpI_gt h1, by omega⟩
    · exact ⟨0, cmpI_eq (by omega), by omega⟩
  have hrd : decide (r < 0) = false := decide_eq_false (by omega)
  have HC := Lib.hid (fun W (hb : Below w.heap.size w W) => ncmp_at (Num.below hx.1 hb) (Num.below hy.1 hb) hr)
  have HBD := Lib.hid hbd
  have HN := Lib.hid (fun W (hb : Below w.heap.size w W) => nless_is (Num.below hx.1 hb) (Num.below hy.1 hb) hle hl1)
  clear hz hle hr hbd hl1 hx hy
  rcases hs with ⟨rfl, rfl⟩ | ⟨rfl, rfl⟩
  · go_enter Tryz.func63, Tryz.ntmps63
    go_wp2_with fail
    obtain ⟨W, hW, b0, b1, b2, hbW, hsz⟩ := boxes3 w #[.bool true, .slice A n c] #[.bool false, .slice A' n' c'] #[.bool false, .slice none 0 0] 47 47 47
    rw [hW]
    clear hW
    refine (HC.out W hbW).mono ?_
    rintro e w0 ⟨rfl, j, rfl⟩
    replace hbW : Below w.heap.size w (W.drewN j) := below_drewN hbW j
    replace b0 : Box (W.drewN j) _ _ _ := b0
    replace b1 : Box (W.drewN j) _ _ _ := b1
    replace b2 : Box (W.drewN j) _ _ _ := b2
    generalize W.drewN j = X at *
    have c0 := b0.cell 0 _ rfl
    have c1 := b0.cell 1 _ rfl
    have d0 := b1.cell 0 _ rfl
    have d1 := b1.cell 1 _ rfl
    go_wp2_with fail
    have HD := HN.out X.drew (hbW.trans ((drawn_below X).mono hbW.size))
    go_region_held3 (fun V => V.cell? ⟨w.heap.size, 0, none⟩ = some (.bool true) ∧ V.cell? ⟨w.heap.size, 1, none⟩ = some (.slice A n c) ∧ V.cell? ⟨w.heap.size + 1, 0, none⟩ = some (.bool false) ∧ V.cell? ⟨w.heap.size + 1, 1, none⟩ = some (.slice A' n' c')) (first | exact KC | exact HC | exact (And.intro (b0.cell 0 _ rfl) (And.intro (b0.cell 1 _ rfl) (And.intro (b1.cell 0 _ rfl) (b1.cell 1 _ rfl)))) | exact ⟨(p0.far (by omega) _ _).cell 0 _ rfl, (p0.far (by omega) _ _).cell 1 _ rfl, (p1.far (by omega) _ _).cell 0 _ rfl, (p1.far (by omega) _ _).cell 1 _ rfl⟩ | go_keep)
      (first
        | (go_at_call 93; refine HD.mono ?_; rintro e w1 ⟨B, k, d, rfl, hN, hb1⟩; have hV : NV w1 (.slice B k d) (x - y) (max L L' + 1) := ⟨hN, HBD.out⟩; have hb1' := below_drawn hb1; have q0 := b0.below hb1'; have q1 := b1.below hb1'; have q2 := b2.below hb1'; have HC := (And.intro (q0.cell 0 _ rfl) (And.intro (q0.cell 1 _ rfl) (And.intro (q1.cell 0 _ rfl) (q1.cell 1 _ rfl)))))
        | (go_at_call 64; refine (nmake_v _ hV HZ.out).mono ?_; rintro e w2 ⟨t, rfl, hI, hb2⟩; have p0 := q0.below hb2; have p1 := q1.below hb2; have p2 := q2.below hb2; have KC := (And.intro (p0.cell 0 _ rfl) (And.intro (p0.cell 1 _ rfl) (And.intro (p1.cell 0 _ rfl) (p1.cell 1 _ rfl)))); have r0 := p2.cell 0 _ rfl; have r1 := p2.cell 1 _ rfl; have f0 := p2.frozen 0; have f1 := p2.frozen 1; have hbT := hbW.trans ((hb1'.trans (hb2.mono hb1'.size)).mono hbW.size))
      )
    have hF := hI.stored p2 (notInt_box _ _ _ _) (.bool t) (.slice B k d)
    have hbf := below_stored (g := w.heap.size + 1 + 1) hbT (by omega) (.bool t) (.slice B k d)
    have hbx := p2.stored (.bool t) (.slice B k d)
    go_wp2_with fail
    refine bodyPost_ret (ret_intN rfl rfl hbx) rfl ?_
    exact ⟨t, B, k, d, rfl, hF, hbf⟩
  · go_enter Tryz.func63, Tryz.ntmps63
    go_wp2_with fail
    obtain ⟨W, hW, b0, b1, b2, hbW, hsz⟩ := boxes3 w #[.bool false, .slice A n c] #[.bool true, .slice A' n' c'] #[.bool false, .slice none 0 0] 47 47 47
    rw [hW]
    clear hW
    refine (HC.out W hbW).mono ?_
    rintro e w0 ⟨rfl, j, rfl⟩
    replace hbW : Below w.heap.size w (W.drewN j) := below_drewN hbW j
    replace b0 : Box (W.drewN j) _ _ _ := b0
    replace b1 : Box (W.drewN j) _ _ _ := b1
    replace b2 : Box (W.drewN j) _ _ _ := b2
    generalize W.drewN j = X at *
    have c0 := b0.cell 0 _ rfl
    have c1 := b0.cell 1 _ rfl
    have d0 := b1.cell 0 _ rfl
    have d1 := b1.cell 1 _ rfl
    go_wp2_with fail
    have HD := HN.out X.drew (hbW.trans ((drawn_below X).mono hbW.size))
    go_region_held3 (fun V => V.cell? ⟨w.heap.size, 0, none⟩ = some (.bool false) ∧ V.cell? ⟨w.heap.size, 1, none⟩ = some (.slice A n c) ∧ V.cell? ⟨w.heap.size + 1, 0, none⟩ = some (.bool true) ∧ V.cell? ⟨w.heap.size + 1, 1, none⟩ = some (.slice A' n' c')) (first | exact KC | exact HC | exact (And.intro (b0.cell 0 _ rfl) (And.intro (b0.cell 1 _ rfl) (And.intro (b1.cell 0 _ rfl) (b1.cell 1 _ rfl)))) | exact ⟨(p0.far (by omega) _ _).cell 0 _ rfl, (p0.far (by omega) _ _).cell 1 _ rfl, (p1.far (by omega) _ _).cell 0 _ rfl, (p1.far (by omega) _ _).cell 1 _ rfl⟩ | go_keep)
      (first
        | (go_at_call 93; refine HD.mono ?_; rintro e w1 ⟨B, k, d, rfl, hN, hb1⟩; have hV : NV w1 (.slice B k d) (x - y) (max L L' + 1) := ⟨hN, HBD.out⟩; have hb1' := below_drawn hb1; have q0 := b0.below hb1'; have q1 := b1.below hb1'; have q2 := b2.below hb1'; have HC := (And.intro (q0.cell 0 _ rfl) (And.intro (q0.cell 1 _ rfl) (And.intro (q1.cell 0 _ rfl) (q1.cell 1 _ rfl)))))
        | (go_at_call 64; refine (nmake_v _ hV HZ.out).mono ?_; rintro e w2 ⟨t, rfl, hI, hb2⟩; have p0 := q0.below hb2; have p1 := q1.below hb2; have p2 := q2.below hb2; have KC := (And.intro (p0.cell 0 _ rfl) (And.intro (p0.cell 1 _ rfl) (And.intro (p1.cell 0 _ rfl) (p1.cell 1 _ rfl)))); have r0 := p2.cell 0 _ rfl; have r1 := p2.cell 1 _ rfl; have f0 := p2.frozen 0; have f1 := p2.frozen 1; have hbT := hbW.trans ((hb1'.trans (hb2.mono hb1'.size)).mono hbW.size))
      )
    have hF := hI.stored p2 (notInt_box _ _ _ _) (.bool t) (.slice B k d)
    have hbf := below_stored (g := w.heap.size + 1 + 1) hbT (by omega) (.bool t) (.slice B k d)
    have hbx := p2.stored (.bool t) (.slice B k d)
    go_wp2_with fail
    refine bodyPost_ret (ret_intN rfl rfl hbx) rfl ?_
    exact ⟨t, B, k, d, rfl, hF, hbf⟩
set_option maxRecDepth 100000 in
theorem nadd_lt (hs : (s = true ∧ s' = false) ∨ (s = false ∧ s' = true)) (hx : NV w (.slice A n c) x L) (hy : NV w (.slice A' n' c') y L') (hL' : L' ≤ 1000000) (hlt : x < y) (hz : sg s' (y - x) = z) :
    Calls Tryz.prog 63 #[.agg #[.bool s, .slice A n c], .agg #[.bool s', .slice A' n' c']] w fun e w' => ∃ t B k d, e = .returned (.agg #[.bool t, .slice B k d]) ∧ NI w' t (.slice B k d) z (max L L' + 1) ∧ Below w.heap.size w w' := by
  have HZ := Lib.hid hz
  have hl1 : n' < 1000000000 := by rw [(Raw.cap hy.1).1]; have := digs_length_le hy.2; omega
  have hbd : y - x < Bs (max L L' + 1) := Nat.lt_of_le_of_lt (Nat.sub_le _ _) (Nat.lt_of_lt_of_le hy.2 (Bs_mono (by omega)))
  have HC := Lib.hid (fun W (hb : Below w.heap.size w W) => ncmp_at (Num.below hx.1 hb) (Num.below hy.1 hb) (cmpI_lt hlt))
  have HBD := Lib.hid hbd
  have HN := Lib.hid (fun W (hb : Below w.heap.size w W) => nless_is (Num.below hy.1 hb) (Num.below hx.1 hb) (Nat.le_of_lt hlt) hl1)
  clear hz hlt hbd hl1 hx hy
  rcases hs with ⟨rfl, rfl⟩ | ⟨rfl, rfl⟩
  · go_enter Tryz.func63, Tryz.ntmps63
    go_wp2_with fail
    obtain ⟨W, hW, b0, b1, b2, hbW, hsz⟩ := boxes3 w #[.bool true, .slice A n c] #[.bool false, .slice A' n' c'] #[.bool false, .slice none 0 0] 47 47 47
    rw [hW]
    clear hW
    refine (HC.out W hbW).mono ?_
    rintro e w0 ⟨rfl, j, rfl⟩
    replace hbW : Below w.heap.size w (W.drewN j) := below_drewN hbW j
    replace b0 : Box (W.drewN j) _ _ _ := b0
    replace b1 : Box (W.drewN j) _ _ _ := b1
    replace b2 : Box (W.drewN j) _ _ _ := b2
    generalize W.drewN j = X at *
    have c0 := b0.cell 0 _ rfl
    have c1 := b0.cell 1 _ rfl
    have d0 := b1.cell 0 _ rfl
    have d1 := b1.cell 1 _ rfl
    go_wp2_with fail
    have HD := HN.out X.drew (hbW.trans ((drawn_below X).mono hbW.size))
    go_region_held3 (fun V => V.cell? ⟨w.heap.size, 0, none⟩ = some (.bool true) ∧ V.cell? ⟨w.heap.size, 1, none⟩ = some (.slice A n c) ∧ V.cell? ⟨w.heap.size + 1, 0, none⟩ = some (.bool false) ∧ V.cell? ⟨w.heap.size + 1, 1, none⟩ = some (.slice A' n' c')) (first | exact KC | exact HC | exact (And.intro (b0.cell 0 _ rfl) (And.intro (b0.cell 1 _ rfl) (And.intro (b1.cell 0 _ rfl) (b1.cell 1 _ rfl)))) | exact ⟨(p0.far (by omega) _ _).cell 0 _ rfl, (p0.far (by omega) _ _).cell 1 _ rfl, (p1.far (by omega) _ _).cell 0 _ rfl, (p1.far (by omega) _ _).cell 1 _ rfl⟩ | go_keep)
      (first
        | (go_at_call 93; refine HD.mono ?_; rintro e w1 ⟨B, k, d, rfl, hN, hb1⟩; have hV : NV w1 (.slice B k d) (y - x) (max L L' + 1) := ⟨hN, HBD.out⟩; have hb1' := below_drawn hb1; have q0 := b0.below hb1'; have q1 := b1.below hb1'; have q2 := b2.below hb1'; have HC := (And.intro (q0.cell 0 _ rfl) (And.intro (q0.cell 1 _ rfl) (And.intro (q1.cell 0 _ rfl) (q1.cell 1 _ rfl)))))
        | (go_at_call 64; refine (nmake_v _ hV HZ.out).mono ?_; rintro e w2 ⟨t, rfl, hI, hb2⟩; have p0 := q0.below hb2; have p1 := q1.below hb2; have p2 := q2.below hb2; have KC := (And.intro (p0.cell 0 _ rfl) (And.intro (p0.cell 1 _ rfl) (And.intro (p1.cell 0 _ rfl) (p1.cell 1 _ rfl)))); have r0 := p2.cell 0 _ rfl; have r1 := p2.cell 1 _ rfl; have f0 := p2.frozen 0; have f1 := p2.frozen 1; have hbT := hbW.trans ((hb1'.trans (hb2.mono hb1'.size)).mono hbW.size))
      )
    have hF := hI.stored p2 (notInt_box _ _ _ _) (.bool t) (.slice B k d)
    have hbf := below_stored (g := w.heap.size + 1 + 1) hbT (by omega) (.bool t) (.slice B k d)
    have hbx := p2.stored (.bool t) (.slice B k d)
    go_wp2_with fail
    refine bodyPost_ret (ret_intN rfl rfl hbx) rfl ?_
    exact ⟨t, B, k, d, rfl, hF, hbf⟩
  · go_enter Tryz.func63, Tryz.ntmps63
    go_wp2_with fail
    obtain ⟨W, hW, b0, b1, b2, hbW, hsz⟩ := boxes3 w #[.bool false, .slice A n c] #[.bool true, .slice A' n' c'] #[.bool false, .slice none 0 0] 47 47 47
    rw [hW]
    clear hW
    refine (HC.out W hbW).mono ?_
    rintro e w0 ⟨rfl, j, rfl⟩
    replace hbW : Below w.heap.size w (W.drewN j) := below_drewN hbW j
    replace b0 : Box (W.drewN j) _ _ _ := b0
    replace b1 : Box (W.drewN j) _ _ _ := b1
    replace b2 : Box (W.drewN j) _ _ _ := b2
    generalize W.drewN j = X at *
    have c0 := b0.cell 0 _ rfl
    have c1 := b0.cell 1 _ rfl
    have d0 := b1.cell 0 _ rfl
    have d1 := b1.cell 1 _ rfl
    go_wp2_with fail
    have HD := HN.out X.drew (hbW.trans ((drawn_below X).mono hbW.size))
    go_region_held3 (fun V => V.cell? ⟨w.heap.size, 0, none⟩ = some (.bool false) ∧ V.cell? ⟨w.heap.size, 1, none⟩ = some (.slice A n c) ∧ V.cell? ⟨w.heap.size + 1, 0, none⟩ = some (.bool true) ∧ V.cell? ⟨w.heap.size + 1, 1, none⟩ = some (.slice A' n' c')) (first | exact KC | exact HC | exact (And.intro (b0.cell 0 _ rfl) (And.intro (b0.cell 1 _ rfl) (And.intro (b1.cell 0 _ rfl) (b1.cell 1 _ rfl)))) | exact ⟨(p0.far (by omega) _ _).cell 0 _ rfl, (p0.far (by omega) _ _).cell 1 _ rfl, (p1.far (by omega) _ _).cell 0 _ rfl, (p1.far (by omega) _ _).cell 1 _ rfl⟩ | go_keep)
      (first
        | (go_at_call 93; refine HD.mono ?_; rintro e w1 ⟨B, k, d, rfl, hN, hb1⟩; have hV : NV w1 (.slice B k d) (y - x) (max L L' + 1) := ⟨hN, HBD.out⟩; have hb1' := below_drawn hb1; have q0 := b0.below hb1'; have q1 := b1.below hb1'; have q2 := b2.below hb1'; have HC := (And.intro (q0.cell 0 _ rfl) (And.intro (q0.cell 1 _ rfl) (And.intro (q1.cell 0 _ rfl) (q1.cell 1 _ rfl)))))
        | (go_at_call 64; refine (nmake_v _ hV HZ.out).mono ?_; rintro e w2 ⟨t, rfl, hI, hb2⟩; have p0 := q0.below hb2; have p1 := q1.below hb2; have p2 := q2.below hb2; have KC := (And.intro (p0.cell 0 _ rfl) (And.intro (p0.cell 1 _ rfl) (And.intro (p1.cell 0 _ rfl) (p1.cell 1 _ rfl)))); have r0 := p2.cell 0 _ rfl; have r1 := p2.cell 1 _ rfl; have f0 := p2.frozen 0; have f1 := p2.frozen 1; have hbT := hbW.trans ((hb1'.trans (hb2.mono hb1'.size)).mono hbW.size))
      )
    have hF := hI.stored p2 (notInt_box _ _ _ _) (.bool t) (.slice B k d)
    have hbf := below_stored (g := w.heap.size + 1 + 1) hbT (by omega) (.bool t) (.slice B k d)
    have hbx := p2.stored (.bool t) (.slice B k d)
    go_wp2_with fail
    refine bodyPost_ret (ret_intN rfl rfl hbx) rfl ?_
    exact ⟨t, B, k, d, rfl, hF, hbf⟩
theorem nadd_v (h : NI w s (.slice A n c) z L) (h' : NI w s' (.slice A' n' c') z' L') (hL : L ≤ 1000000) (hL' : L' ≤ 1000000) :
    Calls Tryz.prog 63 #[.agg #[.bool s, .slice A n c], .agg #[.bool s', .slice A' n' c']] w fun e w' => ∃ t B k d, e = .returned (.agg #[.bool t, .slice B k d]) ∧ NI w' t (.slice B k d) (z + z') (max L L' + 1) ∧ Below w.heap.size w w' := by
  have e1 := h.ri.sg
  have e2 := h'.ri.sg
  by_cases hs : s = s'
  · subst hs
    exact nadd_same s h.1 h'.1 hL hL' (by cases s <;> simp only [sg_false, sg_true] at e1 e2 ⊢ <;> omega)
  · have hs' : (s = true ∧ s' = false) ∨ (s = false ∧ s' = true) := by clear e1 e2 h h'; cases s <;> cases s' <;> simp_all
    rcases Nat.lt_or_ge z.natAbs z'.natAbs with hlt | hle
    · refine nadd_lt hs' h.1 h'.1 hL' hlt ?_
      rcases hs' with ⟨rfl, rfl⟩ | ⟨rfl, rfl⟩
      · rw [sg_true] at e1; rw [sg_false] at e2 ⊢; omega
      · rw [sg_false] at e1; rw [sg_true] at e2 ⊢; omega
    · refine nadd_ge hs' h.1 h'.1 hL hle ?_
      rcases hs' with ⟨rfl, rfl⟩ | ⟨rfl, rfl⟩
      · rw [sg_true] at e1 ⊢; rw [sg_false] at e2; omega
      · rw [sg_false] at e1 ⊢; rw [sg_true] at e2; omega
set_option maxRecDepth 100000 in
theorem nint_pos (m : Nat) (hm : m < 9223372036854775808) (w : World) :
    Calls Tryz.prog 40 #[.int .i64 (m : Int)] w fun e w' => ∃ t B k d, e = .returned (.agg #[.bool t, .slice B k d]) ∧ NI w' t (.slice B k d) (m : Int) 2 ∧ Below w.heap.size w w' := by
  have hw := wrap_pos (m := (m : Int)) (by omega) (by omega)
  have hm2 : m < 18446744073709551616 := by omega
  go_enter Tryz.func40, Tryz.ntmps40
  go_wp2_with fail
  obtain ⟨W, hW, b0, hbW, hsz⟩ := boxes1 w #[.bool false, .slice none 0 0] 47
  rw [hW]
  clear hW
  refine (word_v m hm2 _).mono ?_
  rintro e w1 ⟨B, k, d, rfl, hN, hb⟩
  have q0 := b0.below hb
  go_wp2_with fail
  refine (nmake_v _ hN (z := (m : Int)) rfl).mono ?_
  rintro e w2 ⟨t, rfl, hI, hb2⟩
  have p0 := q0.below hb2
  have r0 := p0.cell 0 _ rfl
  have r1 := p0.cell 1 _ rfl
  have f0 := p0.frozen 0
  have f1 := p0.frozen 1
  have hbT := hbW.trans ((hb.trans (hb2.mono hb.size)).mono hbW.size)
  have hF := hI.stored p0 (notInt_box _ _ _ _) (.bool t) (.slice B k d)
  have hbf := below_stored (g := w.heap.size) hbT (by omega) (.bool t) (.slice B k d)
  have hbx := p0.stored (.bool t) (.slice B k d)
  go_wp2_with fail
  refine bodyPost_ret (ret_intN rfl rfl hbx) rfl ?_
  exact ⟨t, B, k, d, rfl, hF, hbf⟩
set_option maxRecDepth 100000 in
theorem nint_neg (m : Nat) (hm : m ≤ 9223372036854775808) (hm0 : 0 < m) (w : World) :
    Calls Tryz.prog 40 #[.int .i64 (-(m : Int))] w fun e w' => ∃ t B k d, e = .returned (.agg #[.bool t, .slice B k d]) ∧ NI w' t (.slice B k d) (-(m : Int)) 2 ∧ Below w.heap.size w w' := by
  have hm2 : m < 18446744073709551616 := by omega
  have hw : IntKind.u64.wrap (-(m : Int)) = 18446744073709551616 - (m : Int) := by simp [IntKind.wrap, IntKind.bits, IntKind.signed]; omega
  have hw2 : IntKind.u64.wrap (-(18446744073709551616 - (m : Int))) = (m : Int) := by simp [IntKind.wrap, IntKind.bits, IntKind.signed]; omega
  go_enter Tryz.func40, Tryz.ntmps40
  go_wp2_with fail
  obtain ⟨W, hW, b0, hbW, hsz⟩ := boxes1 w #[.bool false, .slice none 0 0] 47
  rw [hW]
  clear hW
  refine (word_v m hm2 _).mono ?_
  rintro e w1 ⟨B, k, d, rfl, hN, hb⟩
  have q0 := b0.below hb
  go_wp2_with fail
  refine (nmake_v _ hN (z := (-(m : Int))) rfl).mono ?_
  rintro e w2 ⟨t, rfl, hI, hb2⟩
  have p0 := q0.below hb2
  have r0 := p0.cell 0 _ rfl
  have r1 := p0.cell 1 _ rfl
  have f0 := p0.frozen 0
  have f1 := p0.frozen 1
  have hbT := hbW.trans ((hb.trans (hb2.mono hb.size)).mono hbW.size)
  have hF := hI.stored p0 (notInt_box _ _ _ _) (.bool t) (.slice B k d)
  have hbf := below_stored (g := w.heap.size) hbT (by omega) (.bool t) (.slice B k d)
  have hbx := p0.stored (.bool t) (.slice B k d)
  go_wp2_with fail
  refine bodyPost_ret (ret_intN rfl rfl hbx) rfl ?_
  exact ⟨t, B, k, d, rfl, hF, hbf⟩
theorem nint_v (z : Int) (h0 : -9223372036854775808 ≤ z) (h1 : z ≤ 9223372036854775807) (w : World) :
    Calls Tryz.prog 40 #[.int .i64 z] w fun e w' => ∃ t B k d, e = .returned (.agg #[.bool t, .slice B k d]) ∧ NI w' t (.slice B k d) z 2 ∧ Below w.heap.size w w' := by
  rcases Int.lt_trichotomy z 0 with h | h | h
  · obtain ⟨m, rfl⟩ : ∃ m : Nat, z = -(m : Int) := ⟨z.natAbs, by omega⟩
    exact nint_neg m (by omega) (by omega) w
  · obtain ⟨m, rfl⟩ : ∃ m : Nat, z = (m : Int) := ⟨z.natAbs, by omega⟩
    exact nint_pos m (by omega) w
  · obtain ⟨m, rfl⟩ : ∃ m : Nat, z = (m : Int) := ⟨z.natAbs, by omega⟩
    exact nint_pos m (by omega) w
theorem ton_v (h : Num w (.slice A n c) x) (hx : x < Bs L) (hL : L ≤ 1000000) :
    Calls Tryz.prog 67 #[.slice A n c] w fun e w' => ∃ B k d, e = .returned (.slice B k d) ∧ NV w' (.slice B k d) x L ∧ Below w.heap.size w w' := by
  refine (ton_any h).mono ?_
  rintro e w1 ⟨v, rfl, hg, hb⟩
  obtain ⟨B, d, rfl⟩ := hg.form
  have hl := digs_length_le hx
  exact ⟨B, _, d, rfl, ⟨hg.raw (by omega), hx⟩, hb⟩
set_option maxRecDepth 100000 in
theorem toI_v (h : NI w s (.slice A n c) z L) (hL : L ≤ 1000000) :
    Calls Tryz.prog 66 #[.agg #[.bool s, .slice A n c]] w fun e w' => ∃ B k d, e = .returned (.agg #[.bool s, .slice B k d]) ∧ NI w' s (.slice B k d) z L ∧ Below w.heap.size w w' := by
  have hs := h.2
  have hN := h.1
  have HS := Lib.hid hs
  clear h hs
  go_enter Tryz.func66, Tryz.ntmps66
  go_wp2_with fail
  obtain ⟨W, hW, b0, b1, hbW, hsz⟩ := boxes2 w #[.bool s, .slice A n c] #[.bool false, .slice none 0 0] 47 61
  rw [hW]
  clear hW
  have hr1 := Num.below hN.1 (hbW.trans ((drawn_below W).mono hbW.size))
  go_region_held3 (fun V => V.cell? ⟨w.heap.size, 0, none⟩ = some (.bool s) ∧ V.cell? ⟨w.heap.size, 1, none⟩ = some (.slice A n c)) (first | exact HC | exact (And.intro (b0.cell 0 _ rfl) (b0.cell 1 _ rfl)) | exact ⟨(q0.far (by omega) _ _).cell 0 _ rfl, (q0.far (by omega) _ _).cell 1 _ rfl⟩ | go_keep)
    (first
      | (go_at_call 67; refine (ton_v hr1 hN.2 hL).mono ?_; rintro e w1 ⟨B, k, d, rfl, hV, hb1⟩; have hb1' := below_drawn hb1; have q0 := b0.below hb1'; have q1 := b1.below hb1'; have r0 := q1.cell 0 _ rfl; have r1 := q1.cell 1 _ rfl; have f0 := q1.frozen 0; have f1 := q1.frozen 1; have hbT := hbW.trans (hb1'.mono hbW.size); have HC := (And.intro (q0.cell 0 _ rfl) (q0.cell 1 _ rfl)))
    )
  have hF := hV.stored q1 (notInt_box _ _ _ _) (.bool s) (.slice B k d)
  have hbf := below_stored (g := w.heap.size + 1) hbT (by omega) (.bool s) (.slice B k d)
  have hbx := q1.stored (.bool s) (.slice B k d)
  go_wp2_with fail
  refine bodyPost_ret (ret_int rfl rfl hbx) rfl ?_
  exact ⟨B, k, d, rfl, ⟨hF, HS.out⟩, hbf⟩
end
end Go.Proofs.YthmmnmajkeoaaabGreatDoor
