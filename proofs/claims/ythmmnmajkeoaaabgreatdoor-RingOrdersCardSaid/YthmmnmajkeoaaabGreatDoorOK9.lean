/-
  GcdM, Euclid, Shorten, Gcd in one text.
-/
import Derived.Test.YthmmnmajkeoaaabGreatDoorOBox
import Derived.Test.YthmmnmajkeoaaabGreatDoorOS1
import Derived.Deep.LoopGhost
namespace Go.Proofs.YthmmnmajkeoaaabGreatDoor

/-- The state of euclid's loop: x and y are two elements of Euclid's sequence of x0 and y0, with their factors; s tells the sign. -/
def Eu (x0 y0 x y u1 u2 v1 v2 : Nat) (s : Bool) : Prop :=
  (s = false → x + v1 * y0 = u1 * x0 ∧ y + u2 * x0 = v2 * y0 ∧ u1 * v2 = u2 * v1 + 1) ∧
  (s = true → x + u1 * x0 = v1 * y0 ∧ y + v2 * y0 = u2 * x0 ∧ u1 * v2 + 1 = u2 * v1) ∧
  x * v2 + y * v1 = x0 ∧ y ≤ x ∧ 1 ≤ v2 ∧ v1 ≤ v2 ∧ u2 ≤ v2 ∧ u1 + u2 ≤ v1 + v2
/-- The elements R and R' of the sequence of two long numbers X and Y that the factors give. -/
def Lo (X Y R R' u0 v0 u1 v1 : Nat) (s : Bool) : Prop :=
  (s = true → R + v0 * Y = u0 * X ∧ R' + u1 * X = v1 * Y ∧ u0 * v1 = u1 * v0 + 1) ∧
  (s = false → R + u0 * X = v0 * Y ∧ R' + v1 * Y = u1 * X ∧ u0 * v1 + 1 = u1 * v0)

theorem eu_start {x0 y0 : Nat} (h : y0 ≤ x0) : Eu x0 y0 x0 y0 1 0 0 1 false := by
  refine ⟨fun _ => ⟨by omega, by omega, by omega⟩, (fun h => by simp at h), by omega, h, by omega, by omega, by omega, by omega⟩
theorem eu_step {x0 y0 x y u1 u2 v1 v2 : Nat} {s : Bool} (h : Eu x0 y0 x y u1 u2 v1 v2 s) (hy : 1 ≤ y) :
    Eu x0 y0 y (x % y) u2 (u1 + x / y * u2) v2 (v1 + x / y * v2) (!s) := by
  obtain ⟨h1, h2, h3, h4, h5, h6, h7, h8⟩ := h
  have hq : 1 ≤ x / y := (Nat.one_le_div_iff (by omega)).2 h4
  have hd := Nat.div_add_mod x y
  have hr := Nat.mod_lt x (show 0 < y by omega)
  generalize x / y = q at *
  generalize x % y = r at *
  have hv : v2 ≤ q * v2 := Nat.le_mul_of_pos_left v2 hq
  have hu : q * u2 ≤ q * v2 := Nat.mul_le_mul_left q h7
  refine ⟨?_, ?_, ?_, by omega, by omega, by omega, ?_, ?_⟩
  · intro hs
    have hs' : s = true := by cases s <;> simp_all
    obtain ⟨a, b, c⟩ := h2 hs'
    exact ⟨by omega, by grind, by grind⟩
  · intro hs
    have hs' : s = false := by cases s <;> simp_all
    obtain ⟨a, b, c⟩ := h1 hs'
    exact ⟨by omega, by grind, by grind⟩
  · grind
  · obtain ⟨d, rfl⟩ : ∃ d, v2 = u2 + d := ⟨v2 - u2, by omega⟩
    have : d ≤ q * d := Nat.le_mul_of_pos_left d hq
    rw [Nat.mul_add]
    omega
  · omega
theorem eu_bounds {x0 y0 x y u1 u2 v1 v2 : Nat} {s : Bool} (h : Eu x0 y0 x y u1 u2 v1 v2 s) (hy : v2 ≤ y) :
    v1 + v2 ≤ x0 ∧ v2 * v2 ≤ x0 ∧ v1 + x / y * v2 ≤ x0 ∧ u1 + x / y * u2 ≤ x0 := by
  have hst := eu_step h (show 1 ≤ y by obtain ⟨_, _, _, _, h5, _⟩ := h; omega)
  obtain ⟨_, _, h3', _, _, _, h7', _⟩ := hst
  obtain ⟨h1, h2, h3, h4, h5, h6, h7, h8⟩ := h
  have a1 : v2 ≤ x * v2 := Nat.le_mul_of_pos_left v2 (by omega)
  have a2 : v1 ≤ y * v1 := Nat.le_mul_of_pos_left v1 (by omega)
  have a3 : v2 * v2 ≤ x * v2 := Nat.mul_le_mul_right v2 (by omega)
  have a4 : v1 + x / y * v2 ≤ y * (v1 + x / y * v2) := Nat.le_mul_of_pos_left _ (by omega)
  exact ⟨by omega, by omega, by omega, by omega⟩
theorem collins {x0 y0 x y u1 u2 v1 v2 X Y B e f : Nat} {s : Bool} (h : Eu x0 y0 x y u1 u2 v1 v2 s) (hX : X = x0 * B + e) (hY : Y = y0 * B + f) (he : e < B) (hf : f < B)
    (hy : v2 ≤ y) (hxy : y + v1 + v2 ≤ x) : ∃ R R', Lo X Y R R' u1 v1 u2 v2 (!s) ∧ R' < R := by
  obtain ⟨h1, h2, h3, h4, h5, h6, h7, h8⟩ := h
  have m0 : v2 * B ≤ y * B := Nat.mul_le_mul_right B hy
  have m1 : (y + v1 + v2) * B ≤ x * B := Nat.mul_le_mul_right B hxy
  rw [Nat.add_mul, Nat.add_mul] at m1
  have m2 : u2 * B ≤ v2 * B := Nat.mul_le_mul_right B h7
  have m3 : u2 * e ≤ u2 * B := Nat.mul_le_mul_left u2 (by omega)
  have m4 : v1 * f ≤ v1 * B := Nat.mul_le_mul_left v1 (by omega)
  have m5 : v2 * (f + 1) ≤ v2 * B := Nat.mul_le_mul_left v2 (by omega)
  have m6 : (u1 + u2) * e ≤ (v1 + v2) * e := Nat.mul_le_mul_right e h8
  have m7 : v1 * e ≤ v1 * B := Nat.mul_le_mul_left v1 (by omega)
  have m8 : v2 * (e + 1) ≤ v2 * B := Nat.mul_le_mul_left v2 (by omega)
  rw [Nat.mul_add, Nat.mul_one] at m5 m8
  rw [Nat.add_mul, Nat.add_mul] at m6
  have a1 : u2 * X = u2 * x0 * B + u2 * e := by rw [hX, Nat.mul_add, Nat.mul_assoc]
  have a2 : v2 * Y = v2 * y0 * B + v2 * f := by rw [hY, Nat.mul_add, Nat.mul_assoc]
  have a3 : u1 * X = u1 * x0 * B + u1 * e := by rw [hX, Nat.mul_add, Nat.mul_assoc]
  have a4 : v1 * Y = v1 * y0 * B + v1 * f := by rw [hY, Nat.mul_add, Nat.mul_assoc]
  cases s
  · obtain ⟨c1, c2, c3⟩ := h1 rfl
    rw [← c2, Nat.add_mul] at a2
    rw [← c1, Nat.add_mul] at a3
    clear h1 h2 h3 c1 c2 hX hY h4
    refine ⟨u1 * X - v1 * Y, v2 * Y - u2 * X, ⟨fun _ => ⟨?_, ?_, c3⟩, fun h => by simp at h⟩, ?_⟩ <;>
    · clear c3
      generalize u1 * X = z1 at *
      generalize v1 * Y = z2 at *
      generalize v2 * Y = z3 at *
      generalize u2 * X = z4 at *
      generalize u2 * x0 * B = z5 at *
      generalize v1 * y0 * B = z6 at *
      generalize x * B = z7 at *
      generalize y * B = z8 at *
      generalize v1 * B = z9 at *
      generalize v2 * B = z10 at *
      generalize u2 * B = z11 at *
      generalize u2 * e = z12 at *
      generalize u1 * e = z13 at *
      generalize v1 * f = z14 at *
      generalize v2 * f = z15 at *
      omega
  · obtain ⟨c1, c2, c3⟩ := h2 rfl
    rw [← c2, Nat.add_mul] at a1
    rw [← c1, Nat.add_mul] at a4
    clear h1 h2 h3 c1 c2 hX hY h4
    refine ⟨v1 * Y - u1 * X, u2 * X - v2 * Y, ⟨fun h => by simp at h, fun _ => ⟨?_, ?_, c3⟩⟩, ?_⟩ <;>
    · clear c3
      generalize u1 * X = z1 at *
      generalize v1 * Y = z2 at *
      generalize v2 * Y = z3 at *
      generalize u2 * X = z4 at *
      generalize u1 * x0 * B = z5 at *
      generalize v2 * y0 * B = z6 at *
      generalize x * B = z7 at *
      generalize y * B = z8 at *
      generalize v1 * B = z9 at *
      generalize v2 * B = z10 at *
      generalize u2 * B = z11 at *
      generalize u2 * e = z12 at *
      generalize u1 * e = z13 at *
      generalize v1 * f = z14 at *
      generalize v2 * f = z15 at *
      generalize v1 * e = z16 at *
      generalize v2 * e = z17 at *
      omega
/-- What euclid knows of its factors: too few steps, or two later elements of the sequence of X and Y. -/
def Fa (X Y u0 v0 u1 v1 : Nat) (s : Bool) : Prop :=
  (v0 = 0 ∧ u1 = 1 ∧ v1 = 0 ∧ s = false) ∨ (v0 = 0 ∧ u1 = 0 ∧ v1 = 1 ∧ s = true) ∨
  (0 < v0 ∧ v0 ≤ v1 ∧ v0 < 4294967296 ∧ u0 < 4294967296 ∧ u1 < 4294967296 ∧ v1 < 4294967296 ∧ ∃ R R', Lo X Y R R' u0 v0 u1 v1 s ∧ R' < R ∧ R ≤ Y)
theorem lt32_of_sq {v x : Nat} (h : v * v ≤ x) (hx : x < 18446744073709551616) : v < 4294967296 := by
  rcases Nat.lt_or_ge v 4294967296 with h1 | h1
  · exact h1
  · have := Nat.mul_le_mul h1 h1
    omega
theorem fa_step {x0 y0 x y u0 u1 u2 v0 v1 v2 X Y B e f : Nat} {s : Bool} (h : Eu x0 y0 x y u1 u2 v1 v2 s) (hF : Fa X Y u0 v0 u1 v1 s) (hx0 : x0 < 18446744073709551616) (hX : X = x0 * B + e) (hY : Y = y0 * B + f) (he : e < B) (hf : f < B)
    (hy : v2 ≤ y) (hxy : y + v1 + v2 ≤ x) : Fa X Y u1 v1 u2 v2 (!s) := by
  obtain ⟨R, R', hL, hR⟩ := collins h hX hY he hf hy hxy
  obtain ⟨_, b2, _, _⟩ := eu_bounds h hy
  have b3 := lt32_of_sq b2 hx0
  obtain ⟨h1, h2, h3, h4, h5, h6, h7, h8⟩ := h
  rcases hF with ⟨a1, a2, a3, a4⟩ | ⟨a1, a2, a3, a4⟩ | ⟨a0, a00, a1, a2, a3, a4, P, P', hP, hP1, hP2⟩
  · subst a1 a2 a3 a4
    obtain ⟨_, _, d⟩ := h1 rfl
    exact .inr (.inl ⟨rfl, by omega, by omega, rfl⟩)
  · subst a1 a2 a3 a4
    obtain ⟨d, _, _⟩ := hL.2 rfl
    exact .inr (.inr ⟨by omega, h6, by omega, by omega, by omega, b3, R, R', hL, hR, by omega⟩)
  · refine .inr (.inr ⟨by omega, h6, a4, a3, by omega, b3, R, R', hL, hR, ?_⟩)
    cases s
    · obtain ⟨d, _, _⟩ := hL.1 rfl
      obtain ⟨_, d2, _⟩ := hP.2 rfl
      omega
    · obtain ⟨d, _, _⟩ := hL.2 rfl
      obtain ⟨_, d2, _⟩ := hP.1 rfl
      omega
theorem lo_gcd {X Y R R' u0 v0 u1 v1 : Nat} {s : Bool} (h : Lo X Y R R' u0 v0 u1 v1 s) : Nat.gcd R R' = Nat.gcd X Y := by
  have hx : v1 * R + v0 * R' = X ∧ u1 * R + u0 * R' = Y := by
    cases s
    · obtain ⟨a, b, c⟩ := h.2 rfl
      constructor <;> grind
    · obtain ⟨a, b, c⟩ := h.1 rfl
      constructor <;> grind
  have hr : Nat.gcd X Y ∣ R ∧ Nat.gcd X Y ∣ R' := by
    have d1 := Nat.gcd_dvd_left X Y
    have d2 := Nat.gcd_dvd_right X Y
    cases s
    · obtain ⟨a, b, c⟩ := h.2 rfl
      exact ⟨(Nat.dvd_add_iff_left (Nat.dvd_mul_left_of_dvd d1 u0)).2 (by rw [a]; exact Nat.dvd_mul_left_of_dvd d2 v0), (Nat.dvd_add_iff_left (Nat.dvd_mul_left_of_dvd d2 v1)).2 (by rw [b]; exact Nat.dvd_mul_left_of_dvd d1 u1)⟩
    · obtain ⟨a, b, c⟩ := h.1 rfl
      exact ⟨(Nat.dvd_add_iff_left (Nat.dvd_mul_left_of_dvd d2 v0)).2 (by rw [a]; exact Nat.dvd_mul_left_of_dvd d1 u0), (Nat.dvd_add_iff_left (Nat.dvd_mul_left_of_dvd d1 u1)).2 (by rw [b]; exact Nat.dvd_mul_left_of_dvd d2 v1)⟩
  refine Nat.dvd_antisymm (Nat.dvd_gcd ?_ ?_) (Nat.dvd_gcd hr.1 hr.2)
  · rw [← hx.1]; exact Nat.dvd_add (Nat.dvd_mul_left_of_dvd (Nat.gcd_dvd_left R R') v1) (Nat.dvd_mul_left_of_dvd (Nat.gcd_dvd_right R R') v0)
  · rw [← hx.2]; exact Nat.dvd_add (Nat.dvd_mul_left_of_dvd (Nat.gcd_dvd_left R R') u1) (Nat.dvd_mul_left_of_dvd (Nat.gcd_dvd_right R R') u0)
end Go.Proofs.YthmmnmajkeoaaabGreatDoor
namespace Go.Proofs.YthmmnmajkeoaaabGreatDoor
open Go.RowKit

theorem fac_stored {w w0 : World} {g : Nat} {a b c d i : Value} (h : Box w g #[a, b, c, d, i] 181) (a' b' c' d' i' : Value) (hb : Below w0.heap.size w0 w) (hg : w0.heap.size ≤ g) :
    Box (((((w.setCell ⟨g, 0, none⟩ a').setCell ⟨g, 1, none⟩ b').setCell ⟨g, 2, none⟩ c').setCell ⟨g, 3, none⟩ d').setCell ⟨g, 4, none⟩ i') g #[a', b', c', d', i'] 181 ∧
    Below w0.heap.size w0 (((((w.setCell ⟨g, 0, none⟩ a').setCell ⟨g, 1, none⟩ b').setCell ⟨g, 2, none⟩ c').setCell ⟨g, 3, none⟩ d').setCell ⟨g, 4, none⟩ i') := by
  have h0 := hb.setCell (p := ⟨g, 0, none⟩) hg a'
  have h1 := h0.setCell (p := ⟨g, 1, none⟩) hg b'
  have h2 := h1.setCell (p := ⟨g, 2, none⟩) hg c'
  have h3 := h2.setCell (p := ⟨g, 3, none⟩) hg d'
  have h4 := h3.setCell (p := ⟨g, 4, none⟩) hg i'
  refine ⟨?_, h4⟩
  have k0 : Box (w.setCell ⟨g, 0, none⟩ a') g #[a', b, c, d, i] 181 := by unfold Box; rw [heap_setCell_same w g 0 _ _ _ h]; simp
  have k1 : Box ((w.setCell ⟨g, 0, none⟩ a').setCell ⟨g, 1, none⟩ b') g #[a', b', c, d, i] 181 := by unfold Box; rw [heap_setCell_same _ g 1 _ _ _ k0]; simp
  have k2 : Box (((w.setCell ⟨g, 0, none⟩ a').setCell ⟨g, 1, none⟩ b').setCell ⟨g, 2, none⟩ c') g #[a', b', c', d, i] 181 := by unfold Box; rw [heap_setCell_same _ g 2 _ _ _ k1]; simp
  have k3 : Box ((((w.setCell ⟨g, 0, none⟩ a').setCell ⟨g, 1, none⟩ b').setCell ⟨g, 2, none⟩ c').setCell ⟨g, 3, none⟩ d') g #[a', b', c', d', i] 181 := by unfold Box; rw [heap_setCell_same _ g 3 _ _ _ k2]; simp
  unfold Box; rw [heap_setCell_same _ g 4 _ _ _ k3]; simp
theorem Box.other1 {w : World} {g g' : Nat} {cs : Array Value} {t : TypeId} (h : Box w g cs t) (hne : g ≠ g') (j : Nat) (u : Value) : Box (w.setCell ⟨g', j, none⟩ u) g cs t :=
  ((only_setCell w ⟨g', j, none⟩ u).block g h.lt (by intro e; injection e with e; exact hne e)).trans h
theorem Box.drew {w : World} {g : Nat} {cs : Array Value} {t : TypeId} (h : Box w g cs t) : Box w.drew g cs t := h
theorem fac_round {w w0 : World} {g g' : Nat} {cs : Array Value} {a b c d i : Value} (h : Box w g #[a, b, c, d, i] 181) (h' : Box w g' cs 181) (hne : g' ≠ g) (a' b' c' d' i' : Value) (hb : Below w0.heap.size w0 w) (hg : w0.heap.size ≤ g) :
    Box (((((w.setCell ⟨g, 0, none⟩ a').setCell ⟨g, 2, none⟩ c').setCell ⟨g, 1, none⟩ b').setCell ⟨g, 3, none⟩ d').setCell ⟨g, 4, none⟩ i').drew g' cs 181 ∧
    Box (((((w.setCell ⟨g, 0, none⟩ a').setCell ⟨g, 2, none⟩ c').setCell ⟨g, 1, none⟩ b').setCell ⟨g, 3, none⟩ d').setCell ⟨g, 4, none⟩ i').drew g #[a', b', c', d', i'] 181 ∧
    Below w0.heap.size w0 (((((w.setCell ⟨g, 0, none⟩ a').setCell ⟨g, 2, none⟩ c').setCell ⟨g, 1, none⟩ b').setCell ⟨g, 3, none⟩ d').setCell ⟨g, 4, none⟩ i').drew := by
  have h0 := hb.setCell (p := ⟨g, 0, none⟩) hg a'
  have h1 := h0.setCell (p := ⟨g, 2, none⟩) hg c'
  have h2 := h1.setCell (p := ⟨g, 1, none⟩) hg b'
  have h3 := h2.setCell (p := ⟨g, 3, none⟩) hg d'
  have h4 := h3.setCell (p := ⟨g, 4, none⟩) hg i'
  have k0 : Box (w.setCell ⟨g, 0, none⟩ a') g #[a', b, c, d, i] 181 := by unfold Box; rw [heap_setCell_same w g 0 _ _ _ h]; simp
  have k1 : Box ((w.setCell ⟨g, 0, none⟩ a').setCell ⟨g, 2, none⟩ c') g #[a', b, c', d, i] 181 := by unfold Box; rw [heap_setCell_same _ g 2 _ _ _ k0]; simp
  have k2 : Box (((w.setCell ⟨g, 0, none⟩ a').setCell ⟨g, 2, none⟩ c').setCell ⟨g, 1, none⟩ b') g #[a', b', c', d, i] 181 := by unfold Box; rw [heap_setCell_same _ g 1 _ _ _ k1]; simp
  have k3 : Box ((((w.setCell ⟨g, 0, none⟩ a').setCell ⟨g, 2, none⟩ c').setCell ⟨g, 1, none⟩ b').setCell ⟨g, 3, none⟩ d') g #[a', b', c', d', i] 181 := by unfold Box; rw [heap_setCell_same _ g 3 _ _ _ k2]; simp
  have k4 : Box (((((w.setCell ⟨g, 0, none⟩ a').setCell ⟨g, 2, none⟩ c').setCell ⟨g, 1, none⟩ b').setCell ⟨g, 3, none⟩ d').setCell ⟨g, 4, none⟩ i') g #[a', b', c', d', i'] 181 := by unfold Box; rw [heap_setCell_same _ g 4 _ _ _ k3]; simp
  have m0 := h'.other1 hne 0 a'
  have m1 := m0.other1 hne 2 c'
  have m2 := m1.other1 hne 1 b'
  have m3 := m2.other1 hne 3 d'
  have m4 := m3.other1 hne 4 i'
  exact ⟨m4.drew, k4.drew, h4.drew⟩
theorem info_fac : (Tryz.prog.info? 181).map (·.size) = some 5 := by kernel_rfl
theorem ret_fac {fn : Func} {p : Tmp} (h : fn.results = #[.cell p 181]) {tmps : Array Value} {w : World} {g : Nat} {a b c d i : Value} (hp : tmps.getD p undef = .pointer (some ⟨g, 0, none⟩)) (hb : Box w g #[a, b, c, d, i] 181) :
    (results fn tmps).run Tryz.prog w = .ok (.agg #[a, b, c, d, i]) w :=
  results_cell_row h tmps w g 181 #[a, b, c, d, i] (0, 0) _ hp hb Tryz.underlying181 rfl info_fac
/-- The factors that euclid returns. -/
def fac (u0 v0 u1 v1 : Nat) (s : Bool) : Value := .agg #[.int .u64 u0, .int .u64 v0, .int .u64 u1, .int .u64 v1, .bool s]
set_option maxRecDepth 100000 in
theorem euclid_v {x0 y0 X Y B e f : Nat} {w : World} (hle : y0 ≤ x0) (hx0 : x0 < 18446744073709551616) (hX : X = x0 * B + e) (hY : Y = y0 * B + f) (he : e < B) (hf : f < B) :
    Calls Tryz.prog 137 #[.int .u64 (x0 : Int), .int .u64 (y0 : Int)] w fun o w' => ∃ u0 v0 u1 v1 s, o = .returned (fac u0 v0 u1 v1 s) ∧ Fa X Y u0 v0 u1 v1 s ∧ Below w.heap.size w w' := by
  have hst := Lib.hid (eu_start hle)
  have hXX := Lib.hid hX
  have hYY := Lib.hid hY
  have HE := Lib.hid he
  have HF := Lib.hid hf
  clear hX hY he hf
  go_enter Tryz.func137, Tryz.ntmps137
  go_wp2_with fail
  obtain ⟨W, hW, b0, b1, hbW, hsW⟩ := boxes2 w #[.int .u64 0, .int .u64 0, .int .u64 0, .int .u64 0, .bool false] #[.int .u64 0, .int .u64 0, .int .u64 1, .int .u64 0, .bool false] 181 181
  rw [hW]
  clear hW
  go_loopw [0, 1, 6, 7, 8] (fun xs ys us vs _ wr => ∃ (x y u0 u1 u2 v0 v1 v2 : Nat) (s : Bool), xs = .int .u64 x ∧ ys = .int .u64 y ∧ us = .int .u64 u2 ∧ vs = .int .u64 v2 ∧ Eu x0 y0 x y u1 u2 v1 v2 s ∧ Fa X Y u0 v0 u1 v1 s ∧ x ≤ x0 ∧
      Box wr w.heap.size #[.int .u64 0, .int .u64 0, .int .u64 0, .int .u64 0, .bool false] 181 ∧ Box wr (w.heap.size + 1) #[.int .u64 u0, .int .u64 v0, .int .u64 u1, .int .u64 v1, .bool s] 181 ∧ Below w.heap.size w wr) (fun _ ys _ _ _ _ => (intOf ys).toNat)
  case atStart => exact ⟨x0, y0, 0, 1, 0, 0, 0, 1, false, rfl, rfl, rfl, rfl, hst.out, .inl ⟨rfl, rfl, rfl, rfl⟩, Nat.le_refl _, b0, b1, hbW⟩
  case round =>
    obtain ⟨x, y, u0, u1, u2, v0, v1, v2, s, rfl, rfl, rfl, rfl, hE, hF, hxx, c0, c1, hbl⟩ := hrel
    have hEE := Lib.hid hE
    have hFF := Lib.hid hF
    obtain ⟨_, _, _, h4, h5, h6, h7, h8⟩ := hE
    clear hF b0 b1 hbW
    have d0 := c1.cell 0 _ rfl
    have d1 := c1.cell 1 _ rfl
    have d2 := c1.cell 2 _ rfl
    have d3 := c1.cell 3 _ rfl
    have d4 := c1.cell 4 _ rfl
    have g0 := c1.frozen 0
    have g1 := c1.frozen 1
    have g2 := c1.frozen 2
    have g3 := c1.frozen 3
    have g4 := c1.frozen 4
    have k0 := c0.cell 0 _ rfl
    have k1 := c0.cell 1 _ rfl
    have k2 := c0.cell 2 _ rfl
    have k3 := c0.cell 3 _ rfl
    have k4 := c0.cell 4 _ rfl
    have p0 := c0.frozen 0
    have p1 := c0.frozen 1
    have p2 := c0.frozen 2
    have p3 := c0.frozen 3
    have p4 := c0.frozen 4
    have e1 : IntKind.u64.wrap ((x : Int) - (y : Int)) = ((x - y : Nat) : Int) := by rw [IntKind.wrap_u64]; omega
    rcases Nat.lt_or_ge y v2 with q1 | q1
    · have q1' : ¬ (v2 : Int) ≤ (y : Int) := by omega
      go_wp2_with fail
      have hst5 := fac_stored c0 (.int .u64 u0) (.int .u64 v0) (.int .u64 u1) (.int .u64 v1) (.bool s) hbl (Nat.le_refl _)
      refine bodyPost_ret (ret_fac rfl rfl hst5.1) rfl ?_
      refine ⟨u0, v0, u1, v1, ?_⟩
      cases s
      · exact .inl ⟨rfl, hFF.out, hst5.2⟩
      · exact .inr ⟨rfl, hFF.out, hst5.2⟩
    · have q1' : (v2 : Int) ≤ (y : Int) := by omega
      obtain ⟨i1, i2, i3, i4⟩ := eu_bounds hEE.out q1
      have e2 : IntKind.u64.wrap ((v1 : Int) + (v2 : Int)) = ((v1 + v2 : Nat) : Int) := by rw [IntKind.wrap_u64]; omega
      have hy0 : ¬ (y : Int) = 0 := by omega
      rcases Nat.lt_or_ge (x - y) (v1 + v2) with q2 | q2
      · have q2' : ¬ ((v1 + v2 : Nat) : Int) ≤ ((x - y : Nat) : Int) := by omega
        go_wp2_with fail
        have hst5 := fac_stored c0 (.int .u64 u0) (.int .u64 v0) (.int .u64 u1) (.int .u64 v1) (.bool s) hbl (Nat.le_refl _)
        refine bodyPost_ret (ret_fac rfl rfl hst5.1) rfl ?_
        refine ⟨u0, v0, u1, v1, ?_⟩
        cases s
        · exact .inl ⟨rfl, hFF.out, hst5.2⟩
        · exact .inr ⟨rfl, hFF.out, hst5.2⟩
      · have q2' : ((v1 + v2 : Nat) : Int) ≤ ((x - y : Nat) : Int) := by omega
        have e3 : ((x : Int) / (y : Int)) = ((x / y : Nat) : Int) := by omega
        have e4 : ((x : Int) % (y : Int)) = ((x % y : Nat) : Int) := by omega
        have hqx : x / y ≤ x := Nat.div_le_self x y
        have hry : x % y < y := Nat.mod_lt x (by omega)
        have hqq := hEE.out
        obtain ⟨Q, hQ⟩ : ∃ q, x / y = q := ⟨_, rfl⟩
        obtain ⟨R, hR⟩ : ∃ r, x % y = r := ⟨_, rfl⟩
        rw [hQ] at e3 i3 i4 hqx
        rw [hR] at e4 hry
        have e5 : IntKind.u64.wrap (Q : Int) = (Q : Int) := by rw [IntKind.wrap_u64]; omega
        have e6 : IntKind.u64.wrap (R : Int) = (R : Int) := by rw [IntKind.wrap_u64]; omega
        go_wp2_with fail
        go_region
        all_goals go_wp2_with fail
        obtain ⟨r1, r2, r3⟩ := fac_round c1 c0 (by omega) (.int .u64 u1) (.int .u64 v1) (.int .u64 u2) (.int .u64 v2) (.bool !s) hbl (by omega)
        have hnE := eu_step hEE.out (by omega)
        have hnF := fa_step hEE.out hFF.out hx0 hXX.out hYY.out HE.out HF.out q1 (by omega)
        rw [hQ, hR] at hnE
        refine ⟨⟨y, R, u1, u2, u1 + Q * u2, v1, v2, v1 + Q * v2, !s, rfl, ?_, by simp, by simp, hnE, hnF, by omega, r1, r2, r3⟩, ?_⟩
        · rw [e4]
        · rw [e4]; simp [intOf]; omega
end Go.Proofs.YthmmnmajkeoaaabGreatDoor
namespace Go.Proofs.YthmmnmajkeoaaabGreatDoor
open Go.RowKit

theorem bitLen_lt : ∀ (k x : Nat), k ≤ 64 → x < 2 ^ k → x < 2 ^ Lib.bitLen x ∧ Lib.bitLen x ≤ k
  | 0, x, _, h => by
    have : x = 0 := by simpa using h
    subst this
    exact ⟨by decide, by decide⟩
  | k + 1, x, hk, h => by
    rcases Nat.eq_zero_or_pos x with h0 | h0
    · subst h0; exact ⟨by decide, by have : Lib.bitLen 0 = 0 := by decide
                                     omega⟩
    · have h64 : x < 2 ^ 64 := Nat.lt_of_lt_of_le h (Nat.pow_le_pow_right (by omega) hk)
      have hp : 2 ^ (k + 1) = 2 * 2 ^ k := by rw [Nat.pow_succ]; omega
      obtain ⟨i1, i2⟩ := bitLen_lt k (x / 2) (by omega) (by omega)
      rw [Lib.bitLen_half x (by omega) h64]
      refine ⟨?_, by omega⟩
      rw [Nat.add_comm, Nat.pow_succ]
      omega
theorem bitsN_lt (x : Nat) : x < 2 ^ bitsN x := by
  unfold bitsN
  split
  · subst_vars; decide
  · rename_i h
    unfold topBits
    obtain ⟨m, hm⟩ : ∃ m, (digs x).length = m + 1 := ⟨(digs x).length - 1, by
      have : 0 < (digs x).length := digs_length_pos (by omega)
      omega⟩
    have ht : (digs x).getD m 0 < 4294967296 := okD_getD (okD_digs x) m
    obtain ⟨i1, i2⟩ := bitLen_lt 32 _ (by omega) (show (digs x).getD m 0 < 2 ^ 32 from ht)
    have hv : x = val ((digs x).take m) + Bs m * (digs x).getD m 0 := by
      rw [← val_take_succ', ← hm, val_take_all (Nat.le_refl _), val_digs]
    have hl := val_lt (okD_take (okD_digs x) m)
    rw [List.length_take, hm, Nat.min_eq_left (by omega)] at hl
    rw [hm, Nat.add_sub_cancel, Nat.mul_comm, Nat.pow_add, ← Bs_pow]
    have : Bs m * ((digs x).getD m 0 + 1) ≤ Bs m * 2 ^ Lib.bitLen ((digs x).getD m 0) := Nat.mul_le_mul_left _ i1
    rw [Nat.mul_add, Nat.mul_one] at this
    omega
theorem bitsN_le {x L : Nat} (h : x < Bs L) : bitsN x ≤ 32 * L := by
  unfold bitsN
  split
  · omega
  · unfold topBits
    have h1 := digs_length_le h
    obtain ⟨i1, i2⟩ := bitLen_lt 32 _ (by omega) (show (digs x).getD ((digs x).length - 1) 0 < 2 ^ 32 from okD_getD (okD_digs x) _)
    have : 0 < (digs x).length := digs_length_pos (by omega)
    omega
theorem bitsN_64 {x : Nat} (h : 18446744073709551616 ≤ x) : 64 < bitsN x := by
  rcases Nat.lt_or_ge 64 (bitsN x) with h1 | h1
  · exact h1
  · have h2 := bitsN_lt x
    have h3 : 2 ^ bitsN x ≤ 2 ^ 64 := Nat.pow_le_pow_right (by omega) h1
    omega
theorem top_64 {x k : Nat} (h : bitsN x = k + 64) : x / 2 ^ k < 18446744073709551616 := by
  have h2 := bitsN_lt x
  rw [h, Nat.pow_add] at h2
  exact Nat.div_lt_of_lt_mul h2
theorem drawn1 (w : World) : Below w.heap.size w w.drew := (below_drewN (Below.refl _ w) 1)
section
variable {A A' : Option Addr} {n n' c c' X Y L L' R : Nat} {w : World}
theorem diff_v (hx : NV w (.slice A n c) X L) (hy : NV w (.slice A' n' c') Y L') (p q : Nat) (hp : p < 4294967296) (hq : q < 4294967296) (hR : R + q * Y = p * X) (hl : R < Bs (max (digs X).length (digs Y).length)) :
    Calls Tryz.prog 138 #[.int .u64 (p : Int), .slice A n c, .int .u64 (q : Int), .slice A' n' c'] w fun e w' => ∃ B k d, e = .returned (.slice B k d) ∧ Num w' (.slice B k d) R ∧ Below w.heap.size w w' := by
  have e : p * X - q * Y = R := by omega
  have h := diff_any hx.1 hy.1 p q hp hq (by rw [val_digs, val_digs]; omega) (by rw [val_digs, val_digs, e]; exact hl)
  rwa [val_digs, val_digs, e] at h
set_option maxRecDepth 100000 in
theorem shorten_v (hx : NV w (.slice A n c) X L) (hy : NV w (.slice A' n' c') Y L') (hle : Y ≤ X) (hY : 18446744073709551616 ≤ Y) (hL : L ≤ 1000000) :
    Calls Tryz.prog 123 #[.slice A n c, .slice A' n' c'] w fun e w' => ∃ B k d B' k' d' R R', e = .returned (.tuple #[.slice B k d, .slice B' k' d']) ∧ NV w' (.slice B k d) R L' ∧ NV w' (.slice B' k' d') R' L' ∧ R' ≤ R ∧ R' < Y ∧ Nat.gcd R R' = Nat.gcd X Y ∧ Below w.heap.size w w' := by
  have hbx := bitsN_64 (Nat.le_trans hY hle)
  have hbl := bitsN_le hx.2
  have hdx : Y < Bs (digs Y).length := lt_of_digs_length (Nat.le_refl _)
  obtain ⟨k, hk⟩ : ∃ k, bitsN X = k + 64 := ⟨bitsN X - 64, by omega⟩
  have ht := top_64 hk
  have hty : Y / 2 ^ k ≤ X / 2 ^ k := Nat.div_le_div_right hle
  have hpk : 0 < 2 ^ k := Nat.pow_pos (by omega)
  have HEU := Lib.hid (fun W => euclid_v (w := W) (X := X) (Y := Y) (B := 2 ^ k) (e := X % 2 ^ k) (f := Y % 2 ^ k) hty ht (by rw [Nat.mul_comm]; exact (Nat.div_add_mod X (2 ^ k)).symm) (by rw [Nat.mul_comm]; exact (Nat.div_add_mod Y (2 ^ k)).symm) (Nat.mod_lt _ hpk) (Nat.mod_lt _ hpk))
  have HBI := Lib.hid (fun W (hb : Below w.heap.size w W) => bits_v (hx.below hb).rv)
  have hk63 : k < 9223372036854775808 := by omega
  have hk0 : ((k : Int) + 64 - 64) = (k : Int) := by omega
  have HSX := Lib.hid (fun W (hb : Below w.heap.size w W) => shr_v (hx.below hb).rv k (by omega))
  have HSY := Lib.hid (fun W (hb : Below w.heap.size w W) => shr_v (hy.below hb).rv k (by omega))
  obtain ⟨tx, htx⟩ : ∃ t, X / 2 ^ k = t := ⟨_, rfl⟩
  obtain ⟨ty, hty2⟩ : ∃ t, Y / 2 ^ k = t := ⟨_, rfl⟩
  rw [htx] at HEU HSX ht hty
  rw [hty2] at HEU HSY hty
  have HUX := Lib.hid (fun (W : World) (A : Option Addr) (n c : Nat) (h : NV W (.slice A n c) tx L) => uint_small h.rv ht)
  have HUY := Lib.hid (fun (W : World) (A : Option Addr) (n c : Nat) (h : NV W (.slice A n c) ty L') => uint_small h.rv (by omega))
  have hkk := Lib.hid hk
  have hdd := Lib.hid hdx
  rw [hk] at HBI
  clear hbx hbl hk htx hty2 hpk hdx ht hty
  go_enter Tryz.func123, Tryz.ntmps123
  go_wp2_with fail
  refine (HBI.out _ (Below.refl _ _)).mono ?_
  rintro e w1 ⟨rfl, hb⟩
  have e1 : IntKind.i64.wrap (((k + 64 : Nat) : Int) - 64) = (k : Int) := by rw [IntKind.wrap_i64]; omega
  have e2 : IntKind.u64.wrap (k : Int) = (k : Int) := by rw [IntKind.wrap_u64]; omega
  have H0 := hb
  clear hb
  go_wp2_with fail
  refine (HSX.out _ H0).mono ?_
  rintro e w2 ⟨B2, m2, d2, rfl, f2, hb⟩
  replace H0 := H0.trans (hb.mono H0.size)
  clear hb HSX
  go_wp2_with fail
  refine (HUX.out _ _ _ _ f2).mono ?_
  rintro e w3 ⟨rfl, hb⟩
  replace H0 := H0.trans (hb.mono H0.size)
  clear hb HUX f2
  go_wp2_with fail
  refine (HSY.out _ H0).mono ?_
  rintro e w4 ⟨B4, m4, d4, rfl, f4, hb⟩
  replace H0 := H0.trans (hb.mono H0.size)
  clear hb HSY
  go_wp2_with fail
  refine (HUY.out _ _ _ _ f4).mono ?_
  rintro e w5 ⟨rfl, hb⟩
  replace H0 := H0.trans (hb.mono H0.size)
  clear hb HUY f4
  go_wp2_with fail
  refine (HEU.out _).mono ?_
  rintro e w6 ⟨u0, v0, u1, v1, s, rfl, hFa, hb⟩
  replace H0 := H0.trans (hb.mono H0.size)
  clear hb HEU HBI
  obtain ⟨W, hW, b0, hbW, hsW⟩ := boxes1 w6 #[.int .u64 u0, .int .u64 v0, .int .u64 u1, .int .u64 v1, .bool s] 181
  replace H0 := H0.trans (hbW.mono H0.size)
  clear hbW hsW
  subst hW
  have fx := hx.below H0
  have fy := hy.below H0
  unfold fac
  have hv : v0 = 0 ∨ 0 < v0 := by omega
  rcases hv with hv | hv
  · subst hv
    clear hFa
    go_wp2_with fail
    rw [Int.natCast_zero] at fx fy H0
    refine (divmod_v fx.rv fy.rv (by omega) hL).mono ?_
    rintro e w7 ⟨B1, k1, d1, B2, k2, d2, rfl, g1, g2, hb⟩
    replace H0 := H0.trans (hb.mono H0.size)
    replace fy := fy.below hb
    go_wp2_with fail
    go_returns
    have hm := Nat.mod_lt X (show 0 < Y by omega)
    exact ⟨_, _, _, _, _, _, Y, X % Y, rfl, fy, g2, by omega, hm, by rw [Nat.gcd_comm Y, Nat.gcd_comm X, ← Nat.gcd_rec], H0⟩
  · have hv0 : ¬ (v0 : Int) = 0 := by omega
    have hv0' : ¬ v0 = 0 := by omega
    rcases hFa with ⟨h, _⟩ | ⟨h, _⟩ | ⟨_, _, c1, c2, c3, c4, R, R', hLo, hR, hRY⟩
    · omega
    · omega
    have hg := lo_gcd hLo
    have FL := Lib.hid hLo
    have HG := Lib.hid hg
    clear hLo hg
    cases s
    · have D1 := Lib.hid (fun V (hb : Below (w6.alloc (.cells #[.int .u64 u0, .int .u64 v0, .int .u64 u1, .int .u64 v1, .bool false] 181)).drew.heap.size (w6.alloc (.cells #[.int .u64 u0, .int .u64 v0, .int .u64 u1, .int .u64 v1, .bool false] 181)).drew V) => diff_v ((show NV (w6.alloc (.cells #[.int .u64 u0, .int .u64 v0, .int .u64 u1, .int .u64 v1, .bool false] 181)).drew _ _ _ from fy).below hb) ((show NV (w6.alloc (.cells #[.int .u64 u0, .int .u64 v0, .int .u64 u1, .int .u64 v1, .bool false] 181)).drew _ _ _ from fx).below hb) v0 u0 c1 c2 (FL.out.2 rfl).1 (Nat.lt_of_le_of_lt hRY (Nat.lt_of_lt_of_le hdd.out (Bs_mono (Nat.le_max_left _ _)))))
      have D2 := Lib.hid (fun V (hb : Below (w6.alloc (.cells #[.int .u64 u0, .int .u64 v0, .int .u64 u1, .int .u64 v1, .bool false] 181)).drew.heap.size (w6.alloc (.cells #[.int .u64 u0, .int .u64 v0, .int .u64 u1, .int .u64 v1, .bool false] 181)).drew V) => diff_v ((show NV (w6.alloc (.cells #[.int .u64 u0, .int .u64 v0, .int .u64 u1, .int .u64 v1, .bool false] 181)).drew _ _ _ from fx).below hb) ((show NV (w6.alloc (.cells #[.int .u64 u0, .int .u64 v0, .int .u64 u1, .int .u64 v1, .bool false] 181)).drew _ _ _ from fy).below hb) u1 v1 c3 c4 (FL.out.2 rfl).2.1 (Nat.lt_of_lt_of_le (Nat.lt_of_lt_of_le (Nat.lt_of_lt_of_le hR hRY) (Nat.le_of_lt hdd.out)) (Bs_mono (Nat.le_max_right _ _))))
      go_wp2_with fail
      have hD := drawn1
      replace b0 : Box (w6.alloc (.cells #[.int .u64 u0, .int .u64 v0, .int .u64 u1, .int .u64 v1, .bool false] 181)).drew _ _ _ := b0
      replace H0 : Below w.heap.size w (w6.alloc (.cells #[.int .u64 u0, .int .u64 v0, .int .u64 u1, .int .u64 v1, .bool false] 181)).drew := H0.trans ((hD _).mono H0.size)
      clear hD
      go_region_held3 (fun V => V.cell? ⟨w6.heap.size, 0, none⟩ = some (.int .u64 (u0 : Int)) ∧ V.cell? ⟨w6.heap.size, 1, none⟩ = some (.int .u64 (v0 : Int)) ∧ V.cell? ⟨w6.heap.size, 2, none⟩ = some (.int .u64 (u1 : Int)) ∧ V.cell? ⟨w6.heap.size, 3, none⟩ = some (.int .u64 (v1 : Int))) (first | exact ⟨b0.cell 0 _ rfl, b0.cell 1 _ rfl, b0.cell 2 _ rfl, b0.cell 3 _ rfl⟩ | exact K2 | exact K1 | go_keep)
        (first
          | (go_at_call 138; with_reducible refine (D1.out _ (Below.refl _ _)).mono ?_; rintro e v1 ⟨B1, k1, d1, rfl, g1, hB1⟩; have K1 := And.intro ((b0.below hB1).cell 0 _ rfl) (And.intro ((b0.below hB1).cell 1 _ rfl) (And.intro ((b0.below hB1).cell 2 _ rfl) ((b0.below hB1).cell 3 _ rfl))))
          | (go_at_call 138; with_reducible refine (D2.out _ hB1).mono ?_; rintro e v2 ⟨B2, k2, d2, rfl, g2, hb2⟩; have hB2 := hB1.trans (hb2.mono hB1.size); have K2 := And.intro ((b0.below hB2).cell 0 _ rfl) (And.intro ((b0.below hB2).cell 1 _ rfl) (And.intro ((b0.below hB2).cell 2 _ rfl) ((b0.below hB2).cell 3 _ rfl))); have g1 := g1.below hb2)
        )
      have H9 := H0.trans (hB2.mono H0.size)
      go_wp2_with fail
      go_returns
      exact ⟨_, _, _, _, _, _, R, R', rfl, ⟨g1, Nat.lt_of_le_of_lt hRY hy.2⟩, ⟨g2, Nat.lt_trans (Nat.lt_of_lt_of_le hR hRY) hy.2⟩, Nat.le_of_lt hR, Nat.lt_of_lt_of_le hR hRY, HG.out, H9⟩
    · have D1 := Lib.hid (fun V (hb : Below (w6.alloc (.cells #[.int .u64 u0, .int .u64 v0, .int .u64 u1, .int .u64 v1, .bool true] 181)).drew.heap.size (w6.alloc (.cells #[.int .u64 u0, .int .u64 v0, .int .u64 u1, .int .u64 v1, .bool true] 181)).drew V) => diff_v ((show NV (w6.alloc (.cells #[.int .u64 u0, .int .u64 v0, .int .u64 u1, .int .u64 v1, .bool true] 181)).drew _ _ _ from fx).below hb) ((show NV (w6.alloc (.cells #[.int .u64 u0, .int .u64 v0, .int .u64 u1, .int .u64 v1, .bool true] 181)).drew _ _ _ from fy).below hb) u0 v0 c2 c1 (FL.out.1 rfl).1 (Nat.lt_of_le_of_lt hRY (Nat.lt_of_lt_of_le hdd.out (Bs_mono (Nat.le_max_right _ _)))))
      have D2 := Lib.hid (fun V (hb : Below (w6.alloc (.cells #[.int .u64 u0, .int .u64 v0, .int .u64 u1, .int .u64 v1, .bool true] 181)).drew.heap.size (w6.alloc (.cells #[.int .u64 u0, .int .u64 v0, .int .u64 u1, .int .u64 v1, .bool true] 181)).drew V) => diff_v ((show NV (w6.alloc (.cells #[.int .u64 u0, .int .u64 v0, .int .u64 u1, .int .u64 v1, .bool true] 181)).drew _ _ _ from fy).below hb) ((show NV (w6.alloc (.cells #[.int .u64 u0, .int .u64 v0, .int .u64 u1, .int .u64 v1, .bool true] 181)).drew _ _ _ from fx).below hb) v1 u1 c4 c3 (FL.out.1 rfl).2.1 (Nat.lt_of_lt_of_le (Nat.lt_of_lt_of_le (Nat.lt_of_lt_of_le hR hRY) (Nat.le_of_lt hdd.out)) (Bs_mono (Nat.le_max_left _ _))))
      go_wp2_with fail
      have hD := drawn1
      replace b0 : Box (w6.alloc (.cells #[.int .u64 u0, .int .u64 v0, .int .u64 u1, .int .u64 v1, .bool true] 181)).drew _ _ _ := b0
      replace H0 : Below w.heap.size w (w6.alloc (.cells #[.int .u64 u0, .int .u64 v0, .int .u64 u1, .int .u64 v1, .bool true] 181)).drew := H0.trans ((hD _).mono H0.size)
      clear hD
      go_region_held3 (fun V => V.cell? ⟨w6.heap.size, 0, none⟩ = some (.int .u64 (u0 : Int)) ∧ V.cell? ⟨w6.heap.size, 1, none⟩ = some (.int .u64 (v0 : Int)) ∧ V.cell? ⟨w6.heap.size, 2, none⟩ = some (.int .u64 (u1 : Int)) ∧ V.cell? ⟨w6.heap.size, 3, none⟩ = some (.int .u64 (v1 : Int))) (first | exact ⟨b0.cell 0 _ rfl, b0.cell 1 _ rfl, b0.cell 2 _ rfl, b0.cell 3 _ rfl⟩ | exact K2 | exact K1 | go_keep)
        (first
          | (go_at_call 138; with_reducible refine (D1.out _ (Below.refl _ _)).mono ?_; rintro e v1 ⟨B1, k1, d1, rfl, g1, hB1⟩; have K1 := And.intro ((b0.below hB1).cell 0 _ rfl) (And.intro ((b0.below hB1).cell 1 _ rfl) (And.intro ((b0.below hB1).cell 2 _ rfl) ((b0.below hB1).cell 3 _ rfl))))
          | (go_at_call 138; with_reducible refine (D2.out _ hB1).mono ?_; rintro e v2 ⟨B2, k2, d2, rfl, g2, hb2⟩; have hB2 := hB1.trans (hb2.mono hB1.size); have K2 := And.intro ((b0.below hB2).cell 0 _ rfl) (And.intro ((b0.below hB2).cell 1 _ rfl) (And.intro ((b0.below hB2).cell 2 _ rfl) ((b0.below hB2).cell 3 _ rfl))); have g1 := g1.below hb2)
        )
      have H9 := H0.trans (hB2.mono H0.size)
      go_wp2_with fail
      go_returns
      exact ⟨_, _, _, _, _, _, R, R', rfl, ⟨g1, Nat.lt_of_le_of_lt hRY hy.2⟩, ⟨g2, Nat.lt_trans (Nat.lt_of_lt_of_le hR hRY) hy.2⟩, Nat.le_of_lt hR, Nat.lt_of_lt_of_le hR hRY, HG.out, H9⟩
end
end Go.Proofs.YthmmnmajkeoaaabGreatDoor
namespace Go.Proofs.YthmmnmajkeoaaabGreatDoor
open Go.RowKit

section
variable {A A' : Option Addr} {n n' c c' X Y L L' : Nat} {w : World}
theorem gcd_lt {X Y L L' : Nat} (h : X < Bs L) (h' : Y < Bs L') : Nat.gcd X Y < Bs (max L L') := by
  rcases Nat.eq_zero_or_pos Y with h0 | h0
  · subst h0
    rw [Nat.gcd_zero_right]
    exact Nat.lt_of_lt_of_le h (Bs_mono (Nat.le_max_left _ _))
  · exact Nat.lt_of_le_of_lt (Nat.gcd_le_right X h0) (Nat.lt_of_lt_of_le h' (Bs_mono (Nat.le_max_right _ _)))
theorem NV.up {w : World} {v : Value} {x L L' : Nat} (h : NV w v x L) (hL : L ≤ L') : NV w v x L' := ⟨h.1, Nat.lt_of_lt_of_le h.2 (Bs_mono hL)⟩
set_option maxRecDepth 100000 in
set_option maxHeartbeats 4000000 in
theorem gcd_ge (hx : RV w (.slice A n c) X L) (hy : RV w (.slice A' n' c') Y L') (hL : L ≤ 1000000) (hL' : L' ≤ 1000000) (hle : Y ≤ X) :
    Calls Tryz.prog 98 #[.slice A n c, .slice A' n' c'] w fun e w' => ∃ B k d, e = .returned (.slice B k d) ∧ NV w' (.slice B k d) (Nat.gcd X Y) (max L L') ∧ Below w.heap.size w w' := by
  have hG : Nat.gcd X Y < Bs (max L L') := gcd_lt hx.lt hy.lt
  obtain ⟨G, hGe⟩ : ∃ G, Nat.gcd X Y = G := ⟨_, rfl⟩
  rw [hGe] at hG ⊢
  have HG := Lib.hid hG
  have HE := Lib.hid hGe
  clear hG hGe
  go_enter Tryz.func98, Tryz.ntmps98
  go_wp2_with fail
  refine (norm_v hx hL).mono ?_
  rintro e w1 ⟨B1, k1, d1, rfl, fx, hb⟩
  have H0 := hb
  replace hy := hy.below hb
  clear hb hx
  go_wp2_with fail
  refine (norm_v hy hL').mono ?_
  rintro e w2 ⟨B2, k2, d2, rfl, fy, hb⟩
  replace H0 := H0.trans (hb.mono H0.size)
  replace fx := fx.below hb
  clear hb hy
  go_wp2_with fail
  refine (cmp_v fx.rv fy.rv).mono ?_
  rintro e w3 ⟨rfl, hb⟩
  replace H0 := H0.trans (hb.mono H0.size)
  replace fx := fx.below hb
  replace fy := fy.below hb
  clear hb
  have hc : ¬ cmpI X Y < 0 := by unfold cmpI; rw [if_neg (by omega)]; split <;> omega
  go_wp2_with fail
  go_loopg [5, 6] Y (fun k xs ys wr => ∃ (R R' : Nat) (B5 : Option Addr) (k5 d5 : Nat) (B6 : Option Addr) (k6 d6 : Nat), xs = .slice B5 k5 d5 ∧ ys = .slice B6 k6 d6 ∧ NV wr (.slice B5 k5 d5) R (max L L') ∧ NV wr (.slice B6 k6 d6) R' (max L L') ∧ R' ≤ R ∧ R' ≤ k ∧ Nat.gcd R R' = G ∧ Below w.heap.size w wr)
  case atStart => exact ⟨_, _, _, _, _, _, _, _, rfl, rfl, fx.up (Nat.le_max_left _ _), fy.up (Nat.le_max_right _ _), by omega, Nat.le_refl _, HE.out, H0⟩
  case round =>
    obtain ⟨R, R', B5, k5, d5, B6, k6, d6, rfl, rfl, gx, gy, hRR, hRk, hgc, hbl⟩ := hrel
    have HGC := Lib.hid hgc
    clear hgc
    have hlen := (Raw.cap gy.1).1
    rcases Nat.lt_or_ge R' 18446744073709551616 with hs | hs
    · have h2 : k6 ≤ 2 := by rw [hlen]; exact digs_length_le (by rw [Bs_two]; exact hs)
      rcases Nat.eq_zero_or_pos R' with h0 | h0
      · subst h0
        rw [digs_zero, List.length_nil] at hlen
        subst hlen
        have hR : R = G := by rw [← HGC.out, Nat.gcd_zero_right]
        subst hR
        go_wp2_with fail
        try rw [Exit.noGoto_ret]
        go_ret
        exact ⟨_, _, _, rfl, gx, hbl⟩
      · have h1 : 0 < k6 := by rw [hlen]; exact digs_length_pos h0
        have h1' : ¬ (k6 : Int) = 0 := by omega
        have h1'' : ¬ k6 = 0 := by omega
        have h2' : ¬ 2 < k6 := by omega
        have h2'' : ¬ (2 : Int) < (k6 : Int) := by omega
        clear hlen
        have hm := Nat.mod_lt R h0
        go_wp2_with fail
        refine (divmod_v gx.rv gy.rv h0 (by omega)).mono ?_
        rintro e w4 ⟨B7, k7, d7, B8, k8, d8, rfl, _, g8, hb⟩
        replace hbl := hbl.trans (hb.mono hbl.size)
        replace gy := gy.below hb
        clear hb
        go_wp2_with fail
        refine (uint_small gy.rv hs).mono ?_
        rintro e w5 ⟨rfl, hb⟩
        replace hbl := hbl.trans (hb.mono hbl.size)
        replace g8 := g8.below hb
        clear hb
        go_wp2_with fail
        refine (uint_small g8.rv (by omega)).mono ?_
        rintro e w6 ⟨rfl, hb⟩
        replace hbl := hbl.trans (hb.mono hbl.size)
        clear hb
        have hg2 : Nat.gcd R' (R % R') = G := by rw [← HGC.out, Nat.gcd_comm R, Nat.gcd_rec R' R, Nat.gcd_comm]
        generalize R % R' = R2 at *
        have HG2 := Lib.hid hg2
        clear hg2 gx gy g8
        go_wp2_with fail
        have hR64 : R2 < 18446744073709551616 := by omega
        go_loopw [10, 12] (fun us vs wr => ∃ p q : Nat, us = .int .u64 p ∧ vs = .int .u64 q ∧ p < 18446744073709551616 ∧ q < 18446744073709551616 ∧ Nat.gcd p q = G ∧ Below w.heap.size w wr) (fun _ vs _ => (intOf vs).toNat)
        case atStart => exact ⟨R', R2, rfl, rfl, hs, hR64, HG2.out, hbl⟩
        case round =>
          obtain ⟨p, q, rfl, rfl, hp, hq, hpq, hbq⟩ := hrel
          have HPQ := Lib.hid hpq
          clear hpq
          rcases Nat.eq_zero_or_pos q with q0 | q0
          · subst q0
            have hpG : p = G := by rw [← HPQ.out, Nat.gcd_zero_right]
            subst hpG
            go_wp2_with fail
            refine (fromuint_v p hp _).mono ?_
            rintro e w7 ⟨B9, k9, d9, rfl, g9, hb⟩
            have hbf := hbq.trans (hb.mono hbq.size)
            have HN : NV w7 (.slice B9 k9 d9) p (max L L') := ⟨g9.1, HG.out⟩
            go_wp2_with fail
            try rw [Exit.noGoto_ret]
            go_ret
            exact ⟨_, _, _, rfl, HN, hbf⟩
          · have q1 : ¬ (q : Int) = 0 := by omega
            have q1' : ¬ q = 0 := by omega
            have e4 : ((p : Int) % (q : Int)) = ((p % q : Nat) : Int) := by omega
            have hry : p % q < q := Nat.mod_lt p q0
            have e6 : IntKind.u64.wrap ((p : Int) % (q : Int)) = ((p % q : Nat) : Int) := by rw [e4, IntKind.wrap_u64]; omega
            have hn : Nat.gcd q (p % q) = G := by rw [← HPQ.out, Nat.gcd_comm p, Nat.gcd_rec q p, Nat.gcd_comm]
            have HN := Lib.hid hn
            clear hn
            go_wp2_with fail
            go_region
            all_goals go_wp2_with fail
            refine ⟨⟨q, p % q, rfl, ?_, hq, by omega, HN.out, hbq.drew⟩, ?_⟩
            · rw [e4]
            · rw [e4]; simp [intOf]; omega
    · have h3 : 2 < k6 := by
        rw [hlen]
        rcases Nat.lt_or_ge 2 (digs R').length with h | h
        · exact h
        · have := digs_length_le_iff.1 h
          rw [Bs_two] at this
          omega
      have h3' : (2 : Int) < (k6 : Int) := by omega
      clear hlen
      go_wp2_with fail
      refine (shorten_v gx gy hRR hs (by omega)).mono ?_
      rintro e w4 ⟨B7, k7, d7, B8, k8, d8, S, S', rfl, g7, g8, hSS, hS, hg, hb⟩
      have hbf := hbl.trans (hb.mono hbl.size)
      obtain ⟨j, rfl⟩ : ∃ j, gk = j + 1 := ⟨gk - 1, by omega⟩
      have hgG : Nat.gcd S S' = G := by rw [hg]; exact HGC.out
      go_wp2_with fail
      go_roundg j
      case measure => omega
      case rel => exact ⟨S, S', _, _, _, _, _, _, rfl, rfl, g7, g8, hSS, by omega, hgG, hbf⟩
set_option maxRecDepth 100000 in
set_option maxHeartbeats 4000000 in
theorem gcd_lt2 (hx : RV w (.slice A n c) X L) (hy : RV w (.slice A' n' c') Y L') (hL : L ≤ 1000000) (hL' : L' ≤ 1000000) (hle : X < Y) :
    Calls Tryz.prog 98 #[.slice A n c, .slice A' n' c'] w fun e w' => ∃ B k d, e = .returned (.slice B k d) ∧ NV w' (.slice B k d) (Nat.gcd X Y) (max L L') ∧ Below w.heap.size w w' := by
  have hG : Nat.gcd X Y < Bs (max L L') := gcd_lt hx.lt hy.lt
  obtain ⟨G, hGe⟩ : ∃ G, Nat.gcd X Y = G := ⟨_, rfl⟩
  rw [hGe] at hG ⊢
  have HG := Lib.hid hG
  have HE := Lib.hid hGe
  clear hG hGe
  go_enter Tryz.func98, Tryz.ntmps98
  go_wp2_with fail
  refine (norm_v hx hL).mono ?_
  rintro e w1 ⟨B1, k1, d1, rfl, fx, hb⟩
  have H0 := hb
  replace hy := hy.below hb
  clear hb hx
  go_wp2_with fail
  refine (norm_v hy hL').mono ?_
  rintro e w2 ⟨B2, k2, d2, rfl, fy, hb⟩
  replace H0 := H0.trans (hb.mono H0.size)
  replace fx := fx.below hb
  clear hb hy
  go_wp2_with fail
  refine (cmp_v fx.rv fy.rv).mono ?_
  rintro e w3 ⟨rfl, hb⟩
  replace H0 := H0.trans (hb.mono H0.size)
  replace fx := fx.below hb
  replace fy := fy.below hb
  clear hb
  have hc : cmpI X Y < 0 := by rw [cmpI_lt hle]; omega
  go_wp2_with fail
  go_loopg [5, 6] X (fun k xs ys wr => ∃ (R R' : Nat) (B5 : Option Addr) (k5 d5 : Nat) (B6 : Option Addr) (k6 d6 : Nat), xs = .slice B5 k5 d5 ∧ ys = .slice B6 k6 d6 ∧ NV wr (.slice B5 k5 d5) R (max L L') ∧ NV wr (.slice B6 k6 d6) R' (max L L') ∧ R' ≤ R ∧ R' ≤ k ∧ Nat.gcd R R' = G ∧ Below w.heap.size w wr)
  case atStart => exact ⟨_, _, _, _, _, _, _, _, rfl, rfl, fy.up (Nat.le_max_right _ _), fx.up (Nat.le_max_left _ _), by omega, Nat.le_refl _, by rw [Nat.gcd_comm]; exact HE.out, H0⟩
  case round =>
    obtain ⟨R, R', B5, k5, d5, B6, k6, d6, rfl, rfl, gx, gy, hRR, hRk, hgc, hbl⟩ := hrel
    have HGC := Lib.hid hgc
    clear hgc
    have hlen := (Raw.cap gy.1).1
    rcases Nat.lt_or_ge R' 18446744073709551616 with hs | hs
    · have h2 : k6 ≤ 2 := by rw [hlen]; exact digs_length_le (by rw [Bs_two]; exact hs)
      rcases Nat.eq_zero_or_pos R' with h0 | h0
      · subst h0
        rw [digs_zero, List.length_nil] at hlen
        subst hlen
        have hR : R = G := by rw [← HGC.out, Nat.gcd_zero_right]
        subst hR
        go_wp2_with fail
        try rw [Exit.noGoto_ret]
        go_ret
        exact ⟨_, _, _, rfl, gx, hbl⟩
      · have h1 : 0 < k6 := by rw [hlen]; exact digs_length_pos h0
        have h1' : ¬ (k6 : Int) = 0 := by omega
        have h1'' : ¬ k6 = 0 := by omega
        have h2' : ¬ 2 < k6 := by omega
        have h2'' : ¬ (2 : Int) < (k6 : Int) := by omega
        clear hlen
        have hm := Nat.mod_lt R h0
        go_wp2_with fail
        refine (divmod_v gx.rv gy.rv h0 (by omega)).mono ?_
        rintro e w4 ⟨B7, k7, d7, B8, k8, d8, rfl, _, g8, hb⟩
        replace hbl := hbl.trans (hb.mono hbl.size)
        replace gy := gy.below hb
        clear hb
        go_wp2_with fail
        refine (uint_small gy.rv hs).mono ?_
        rintro e w5 ⟨rfl, hb⟩
        replace hbl := hbl.trans (hb.mono hbl.size)
        replace g8 := g8.below hb
        clear hb
        go_wp2_with fail
        refine (uint_small g8.rv (by omega)).mono ?_
        rintro e w6 ⟨rfl, hb⟩
        replace hbl := hbl.trans (hb.mono hbl.size)
        clear hb
        have hg2 : Nat.gcd R' (R % R') = G := by rw [← HGC.out, Nat.gcd_comm R, Nat.gcd_rec R' R, Nat.gcd_comm]
        generalize R % R' = R2 at *
        have HG2 := Lib.hid hg2
        clear hg2 gx gy g8
        go_wp2_with fail
        have hR64 : R2 < 18446744073709551616 := by omega
        go_loopw [10, 12] (fun us vs wr => ∃ p q : Nat, us = .int .u64 p ∧ vs = .int .u64 q ∧ p < 18446744073709551616 ∧ q < 18446744073709551616 ∧ Nat.gcd p q = G ∧ Below w.heap.size w wr) (fun _ vs _ => (intOf vs).toNat)
        case atStart => exact ⟨R', R2, rfl, rfl, hs, hR64, HG2.out, hbl⟩
        case round =>
          obtain ⟨p, q, rfl, rfl, hp, hq, hpq, hbq⟩ := hrel
          have HPQ := Lib.hid hpq
          clear hpq
          rcases Nat.eq_zero_or_pos q with q0 | q0
          · subst q0
            have hpG : p = G := by rw [← HPQ.out, Nat.gcd_zero_right]
            subst hpG
            go_wp2_with fail
            refine (fromuint_v p hp _).mono ?_
            rintro e w7 ⟨B9, k9, d9, rfl, g9, hb⟩
            have hbf := hbq.trans (hb.mono hbq.size)
            have HN : NV w7 (.slice B9 k9 d9) p (max L L') := ⟨g9.1, HG.out⟩
            go_wp2_with fail
            try rw [Exit.noGoto_ret]
            go_ret
            exact ⟨_, _, _, rfl, HN, hbf⟩
          · have q1 : ¬ (q : Int) = 0 := by omega
            have q1' : ¬ q = 0 := by omega
            have e4 : ((p : Int) % (q : Int)) = ((p % q : Nat) : Int) := by omega
            have hry : p % q < q := Nat.mod_lt p q0
            have e6 : IntKind.u64.wrap ((p : Int) % (q : Int)) = ((p % q : Nat) : Int) := by rw [e4, IntKind.wrap_u64]; omega
            have hn : Nat.gcd q (p % q) = G := by rw [← HPQ.out, Nat.gcd_comm p, Nat.gcd_rec q p, Nat.gcd_comm]
            have HN := Lib.hid hn
            clear hn
            go_wp2_with fail
            go_region
            all_goals go_wp2_with fail
            refine ⟨⟨q, p % q, rfl, ?_, hq, by omega, HN.out, hbq.drew⟩, ?_⟩
            · rw [e4]
            · rw [e4]; simp [intOf]; omega
    · have h3 : 2 < k6 := by
        rw [hlen]
        rcases Nat.lt_or_ge 2 (digs R').length with h | h
        · exact h
        · have := digs_length_le_iff.1 h
          rw [Bs_two] at this
          omega
      have h3' : (2 : Int) < (k6 : Int) := by omega
      clear hlen
      go_wp2_with fail
      refine (shorten_v gx gy hRR hs (by omega)).mono ?_
      rintro e w4 ⟨B7, k7, d7, B8, k8, d8, S, S', rfl, g7, g8, hSS, hS, hg, hb⟩
      have hbf := hbl.trans (hb.mono hbl.size)
      obtain ⟨j, rfl⟩ : ∃ j, gk = j + 1 := ⟨gk - 1, by omega⟩
      have hgG : Nat.gcd S S' = G := by rw [hg]; exact HGC.out
      go_wp2_with fail
      go_roundg j
      case measure => omega
      case rel => exact ⟨S, S', _, _, _, _, _, _, rfl, rfl, g7, g8, hSS, by omega, hgG, hbf⟩
theorem gcd_v (hx : RV w (.slice A n c) X L) (hy : RV w (.slice A' n' c') Y L') (hL : L ≤ 1000000) (hL' : L' ≤ 1000000) :
    Calls Tryz.prog 98 #[.slice A n c, .slice A' n' c'] w fun e w' => ∃ B k d, e = .returned (.slice B k d) ∧ NV w' (.slice B k d) (Nat.gcd X Y) (max L L') ∧ Below w.heap.size w w' := by
  rcases Nat.lt_or_ge X Y with h | h
  · exact gcd_lt2 hx hy hL hL' h
  · exact gcd_ge hx hy hL hL' h
end
end Go.Proofs.YthmmnmajkeoaaabGreatDoor
