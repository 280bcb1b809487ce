/-
  The contract of euclid.
-/
import Derived.Test.YtpbfecbhdfnacaaDoorGcdM
import Derived.Test.YtpbfecbhdfnacaaDoorBox
namespace Go.Proofs.YtpbfecbhdfnacaaDoor
open Go.RowKit

theorem fac_stored {w w0 : World} {g : Nat} {a b c d i : Value} (h : Box w g #[a, b, c, d, i] 100) (a' b' c' d' i' : Value) (hb : Below w0.heap.size w0 w) (hg : w0.heap.size ≤ g) :
    Box (((((w.setCell ⟨g, 0, none⟩ a').setCell ⟨g, 1, none⟩ b').setCell ⟨g, 2, none⟩ c').setCell ⟨g, 3, none⟩ d').setCell ⟨g, 4, none⟩ i') g #[a', b', c', d', i'] 100 ∧
    Below w0.heap.size w0 (((((w.setCell ⟨g, 0, none⟩ a').setCell ⟨g, 1, none⟩ b').setCell ⟨g, 2, none⟩ c').setCell ⟨g, 3, none⟩ d').setCell ⟨g, 4, none⟩ i') := by
  have h0 := hb.setCell (p := ⟨g, 0, none⟩) hg a'
  have h1 := h0.setCell (p := ⟨g, 1, none⟩) hg b'
  have h2 := h1.setCell (p := ⟨g, 2, none⟩) hg c'
  have h3 := h2.setCell (p := ⟨g, 3, none⟩) hg d'
  have h4 := h3.setCell (p := ⟨g, 4, none⟩) hg i'
  refine ⟨?_, h4⟩
  have k0 : Box (w.setCell ⟨g, 0, none⟩ a') g #[a', b, c, d, i] 100 := by unfold Box; rw [heap_setCell_same w g 0 _ _ _ h]; simp
  have k1 : Box ((w.setCell ⟨g, 0, none⟩ a').setCell ⟨g, 1, none⟩ b') g #[a', b', c, d, i] 100 := by unfold Box; rw [heap_setCell_same _ g 1 _ _ _ k0]; simp
  have k2 : Box (((w.setCell ⟨g, 0, none⟩ a').setCell ⟨g, 1, none⟩ b').setCell ⟨g, 2, none⟩ c') g #[a', b', c', d, i] 100 := by unfold Box; rw [heap_setCell_same _ g 2 _ _ _ k1]; simp
  have k3 : Box ((((w.setCell ⟨g, 0, none⟩ a').setCell ⟨g, 1, none⟩ b').setCell ⟨g, 2, none⟩ c').setCell ⟨g, 3, none⟩ d') g #[a', b', c', d', i] 100 := by unfold Box; rw [heap_setCell_same _ g 3 _ _ _ k2]; simp
  unfold Box; rw [heap_setCell_same _ g 4 _ _ _ k3]; simp
theorem Box.other1 {w : World} {g g' : Nat} {cs : Array Value} {t : TypeId} (h : Box w g cs t) (hne : g ≠ g') (j : Nat) (u : Value) : Box (w.setCell ⟨g', j, none⟩ u) g cs t :=
  ((only_setCell w ⟨g', j, none⟩ u).block g h.lt (by intro e; injection e with e; exact hne e)).trans h
theorem Box.drew {w : World} {g : Nat} {cs : Array Value} {t : TypeId} (h : Box w g cs t) : Box w.drew g cs t := h
theorem fac_round {w w0 : World} {g g' : Nat} {cs : Array Value} {a b c d i : Value} (h : Box w g #[a, b, c, d, i] 100) (h' : Box w g' cs 100) (hne : g' ≠ g) (a' b' c' d' i' : Value) (hb : Below w0.heap.size w0 w) (hg : w0.heap.size ≤ g) :
    Box (((((w.setCell ⟨g, 0, none⟩ a').setCell ⟨g, 2, none⟩ c').setCell ⟨g, 1, none⟩ b').setCell ⟨g, 3, none⟩ d').setCell ⟨g, 4, none⟩ i').drew g' cs 100 ∧
    Box (((((w.setCell ⟨g, 0, none⟩ a').setCell ⟨g, 2, none⟩ c').setCell ⟨g, 1, none⟩ b').setCell ⟨g, 3, none⟩ d').setCell ⟨g, 4, none⟩ i').drew g #[a', b', c', d', i'] 100 ∧
    Below w0.heap.size w0 (((((w.setCell ⟨g, 0, none⟩ a').setCell ⟨g, 2, none⟩ c').setCell ⟨g, 1, none⟩ b').setCell ⟨g, 3, none⟩ d').setCell ⟨g, 4, none⟩ i').drew := by
  have h0 := hb.setCell (p := ⟨g, 0, none⟩) hg a'
  have h1 := h0.setCell (p := ⟨g, 2, none⟩) hg c'
  have h2 := h1.setCell (p := ⟨g, 1, none⟩) hg b'
  have h3 := h2.setCell (p := ⟨g, 3, none⟩) hg d'
  have h4 := h3.setCell (p := ⟨g, 4, none⟩) hg i'
  have k0 : Box (w.setCell ⟨g, 0, none⟩ a') g #[a', b, c, d, i] 100 := by unfold Box; rw [heap_setCell_same w g 0 _ _ _ h]; simp
  have k1 : Box ((w.setCell ⟨g, 0, none⟩ a').setCell ⟨g, 2, none⟩ c') g #[a', b, c', d, i] 100 := by unfold Box; rw [heap_setCell_same _ g 2 _ _ _ k0]; simp
  have k2 : Box (((w.setCell ⟨g, 0, none⟩ a').setCell ⟨g, 2, none⟩ c').setCell ⟨g, 1, none⟩ b') g #[a', b', c', d, i] 100 := by unfold Box; rw [heap_setCell_same _ g 1 _ _ _ k1]; simp
  have k3 : Box ((((w.setCell ⟨g, 0, none⟩ a').setCell ⟨g, 2, none⟩ c').setCell ⟨g, 1, none⟩ b').setCell ⟨g, 3, none⟩ d') g #[a', b', c', d', i] 100 := by unfold Box; rw [heap_setCell_same _ g 3 _ _ _ k2]; simp
  have k4 : Box (((((w.setCell ⟨g, 0, none⟩ a').setCell ⟨g, 2, none⟩ c').setCell ⟨g, 1, none⟩ b').setCell ⟨g, 3, none⟩ d').setCell ⟨g, 4, none⟩ i') g #[a', b', c', d', i'] 100 := by unfold Box; rw [heap_setCell_same _ g 4 _ _ _ k3]; simp
  have m0 := h'.other1 hne 0 a'
  have m1 := m0.other1 hne 2 c'
  have m2 := m1.other1 hne 1 b'
  have m3 := m2.other1 hne 3 d'
  have m4 := m3.other1 hne 4 i'
  exact ⟨m4.drew, k4.drew, h4.drew⟩
theorem info_fac : (Tryd.prog.info? 100).map (·.size) = some 5 := by kernel_rfl
theorem ret_fac {fn : Func} {p : Tmp} (h : fn.results = #[.cell p 100]) {tmps : Array Value} {w : World} {g : Nat} {a b c d i : Value} (hp : tmps.getD p undef = .pointer (some ⟨g, 0, none⟩)) (hb : Box w g #[a, b, c, d, i] 100) :
    (results fn tmps).run Tryd.prog w = .ok (.agg #[a, b, c, d, i]) w :=
  results_cell_row h tmps w g 100 #[a, b, c, d, i] (0, 0) _ hp hb Tryd.underlying100 rfl info_fac
/-- The factors that euclid returns. -/
def fac (u0 v0 u1 v1 : Nat) (s : Bool) : Value := .agg #[.int .u64 u0, .int .u64 v0, .int .u64 u1, .int .u64 v1, .bool s]
set_option maxRecDepth 100000 in
theorem euclid_v {x0 y0 X Y B e f : Nat} {w : World} (hle : y0 ≤ x0) (hx0 : x0 < 18446744073709551616) (hX : X = x0 * B + e) (hY : Y = y0 * B + f) (he : e < B) (hf : f < B) :
    Calls Tryd.prog 73 #[.int .u64 (x0 : Int), .int .u64 (y0 : Int)] w fun o w' => ∃ u0 v0 u1 v1 s, o = .returned (fac u0 v0 u1 v1 s) ∧ Fa X Y u0 v0 u1 v1 s ∧ Below w.heap.size w w' := by
  have hst := Lib.hid (eu_start hle)
  have hXX := Lib.hid hX
  have hYY := Lib.hid hY
  have HE := Lib.hid he
  have HF := Lib.hid hf
  clear hX hY he hf
  go_enter Tryd.func73, Tryd.ntmps73
  go_wp2_with fail
  obtain ⟨W, hW, b0, b1, hbW, hsW⟩ := boxes2 w #[.int .u64 0, .int .u64 0, .int .u64 0, .int .u64 0, .bool false] #[.int .u64 0, .int .u64 0, .int .u64 1, .int .u64 0, .bool false] 100 100
  rw [hW]
  clear hW
  go_loopw [0, 1, 6, 7, 8] (fun xs ys us vs _ wr => ∃ (x y u0 u1 u2 v0 v1 v2 : Nat) (s : Bool), xs = .int .u64 x ∧ ys = .int .u64 y ∧ us = .int .u64 u2 ∧ vs = .int .u64 v2 ∧ Eu x0 y0 x y u1 u2 v1 v2 s ∧ Fa X Y u0 v0 u1 v1 s ∧ x ≤ x0 ∧
      Box wr w.heap.size #[.int .u64 0, .int .u64 0, .int .u64 0, .int .u64 0, .bool false] 100 ∧ Box wr (w.heap.size + 1) #[.int .u64 u0, .int .u64 v0, .int .u64 u1, .int .u64 v1, .bool s] 100 ∧ Below w.heap.size w wr) (fun _ ys _ _ _ _ => (intOf ys).toNat)
  case atStart => exact ⟨x0, y0, 0, 1, 0, 0, 0, 1, false, rfl, rfl, rfl, rfl, hst.out, .inl ⟨rfl, rfl, rfl, rfl⟩, Nat.le_refl _, b0, b1, hbW⟩
  case round =>
    obtain ⟨x, y, u0, u1, u2, v0, v1, v2, s, rfl, rfl, rfl, rfl, hE, hF, hxx, c0, c1, hbl⟩ := hrel
    have hEE := Lib.hid hE
    have hFF := Lib.hid hF
    obtain ⟨_, _, _, h4, h5, h6, h7, h8⟩ := hE
    clear hF b0 b1 hbW
    have d0 := c1.cell 0 _ rfl
    have d1 := c1.cell 1 _ rfl
    have d2 := c1.cell 2 _ rfl
    have d3 := c1.cell 3 _ rfl
    have d4 := c1.cell 4 _ rfl
    have g0 := c1.frozen 0
    have g1 := c1.frozen 1
    have g2 := c1.frozen 2
    have g3 := c1.frozen 3
    have g4 := c1.frozen 4
    have k0 := c0.cell 0 _ rfl
    have k1 := c0.cell 1 _ rfl
    have k2 := c0.cell 2 _ rfl
    have k3 := c0.cell 3 _ rfl
    have k4 := c0.cell 4 _ rfl
    have p0 := c0.frozen 0
    have p1 := c0.frozen 1
    have p2 := c0.frozen 2
    have p3 := c0.frozen 3
    have p4 := c0.frozen 4
    have e1 : IntKind.u64.wrap ((x : Int) - (y : Int)) = ((x - y : Nat) : Int) := by rw [IntKind.wrap_u64]; omega
    rcases Nat.lt_or_ge y v2 with q1 | q1
    · have q1' : ¬ (v2 : Int) ≤ (y : Int) := by omega
      go_wp2_with fail
      have hst5 := fac_stored c0 (.int .u64 u0) (.int .u64 v0) (.int .u64 u1) (.int .u64 v1) (.bool s) hbl (Nat.le_refl _)
      refine bodyPost_ret (ret_fac rfl rfl hst5.1) rfl ?_
      refine ⟨u0, v0, u1, v1, ?_⟩
      cases s
      · exact .inl ⟨rfl, hFF.out, hst5.2⟩
      · exact .inr ⟨rfl, hFF.out, hst5.2⟩
    · have q1' : (v2 : Int) ≤ (y : Int) := by omega
      obtain ⟨i1, i2, i3, i4⟩ := eu_bounds hEE.out q1
      have e2 : IntKind.u64.wrap ((v1 : Int) + (v2 : Int)) = ((v1 + v2 : Nat) : Int) := by rw [IntKind.wrap_u64]; omega
      have hy0 : ¬ (y : Int) = 0 := by omega
      rcases Nat.lt_or_ge (x - y) (v1 + v2) with q2 | q2
      · have q2' : ¬ ((v1 + v2 : Nat) : Int) ≤ ((x - y : Nat) : Int) := by omega
        go_wp2_with fail
        have hst5 := fac_stored c0 (.int .u64 u0) (.int .u64 v0) (.int .u64 u1) (.int .u64 v1) (.bool s) hbl (Nat.le_refl _)
        refine bodyPost_ret (ret_fac rfl rfl hst5.1) rfl ?_
        refine ⟨u0, v0, u1, v1, ?_⟩
        cases s
        · exact .inl ⟨rfl, hFF.out, hst5.2⟩
        · exact .inr ⟨rfl, hFF.out, hst5.2⟩
      · have q2' : ((v1 + v2 : Nat) : Int) ≤ ((x - y : Nat) : Int) := by omega
        have e3 : ((x : Int) / (y : Int)) = ((x / y : Nat) : Int) := by omega
        have e4 : ((x : Int) % (y : Int)) = ((x % y : Nat) : Int) := by omega
        have hqx : x / y ≤ x := Nat.div_le_self x y
        have hry : x % y < y := Nat.mod_lt x (by omega)
        have hqq := hEE.out
        obtain ⟨Q, hQ⟩ : ∃ q, x / y = q := ⟨_, rfl⟩
        obtain ⟨R, hR⟩ : ∃ r, x % y = r := ⟨_, rfl⟩
        rw [hQ] at e3 i3 i4 hqx
        rw [hR] at e4 hry
        have e5 : IntKind.u64.wrap (Q : Int) = (Q : Int) := by rw [IntKind.wrap_u64]; omega
        have e6 : IntKind.u64.wrap (R : Int) = (R : Int) := by rw [IntKind.wrap_u64]; omega
        go_wp2_with fail
        go_region
        all_goals go_wp2_with fail
        obtain ⟨r1, r2, r3⟩ := fac_round c1 c0 (by omega) (.int .u64 u1) (.int .u64 v1) (.int .u64 u2) (.int .u64 v2) (.bool !s) hbl (by omega)
        have hnE := eu_step hEE.out (by omega)
        have hnF := fa_step hEE.out hFF.out hx0 hXX.out hYY.out HE.out HF.out q1 (by omega)
        rw [hQ, hR] at hnE
        refine ⟨⟨y, R, u1, u2, u1 + Q * u2, v1, v2, v1 + Q * v2, !s, rfl, ?_, by simp, by simp, hnE, hnF, by omega, r1, r2, r3⟩, ?_⟩
        · rw [e4]
        · rw [e4]; simp [intOf]; omega
end Go.Proofs.YtpbfecbhdfnacaaDoor
