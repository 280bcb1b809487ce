/-
  An argument that is a rational number (a struct of an integer and a natural number), opened and shut.
-/
import Derived.Test.YtkhfadfjkmhpgaaGreatDoorShut
import Derived.Test.YtkhfadfjkmhpgaaGreatDoorRaws
import Derived.Lib.SmallJoins
namespace Go.Proofs.YtkhfadfjkmhpgaaGreatDoor
open Go.ChangeShapes Go.WideShapes Go.ChangeAt Go.WideMaps Go.WideElems Go.RowKit Go.Deep Go.Joins

theorem open_boolcell {H : Type} {enc : TypeId × Value → H} {W : World} {base : Nat} {sp : Nat → Bool} {held : Bool} {t : TypeId} {n : Nat} {v : Value} {y : DataW H × List MemPlace} (ht : Tryz.prog.underlying t = some .bool) (h : DataW.trod enc Tryz.prog W base sp held n t [v] = some y) :
    ∃ b, v = .bool b ∧ y = (.lit (.bool b), []) := by
  obtain ⟨b, h1, h2⟩ := DataW.trod_bool ht h
  injection h1 with h1
  exact ⟨b, h1, h2⟩
theorem cells_int2 : Tryz.prog.cellsOf 25 = 2 := by kernel_rfl
theorem cells_rat3 : Tryz.prog.cellsOf 27 = 3 := by kernel_rfl
theorem cells_nat1 : Tryz.prog.cellsOf 23 = 1 := by kernel_rfl
theorem cells_bool1 : Tryz.prog.cellsOf 4 = 1 := by kernel_rfl
theorem open_natcell {H : Type} {enc : TypeId × Value → H} {W : World} {n : Nat} {v : Value} {y : DataW H × List MemPlace} (h : DataW.trod enc Tryz.prog W 0 (fun _ => true) true n 23 [v] = some y) :
    ∃ A m c, v = .slice A m c ∧
      (m ≤ c ∧ m ≤ 9223372036854775807 ∧ ∀ j, j < m → ∃ ad z, A = some ad ∧ ad.block < W.heap.size ∧ W.cell? (ad.add j) = some (.int .u32 z) ∧ (Lit.int .u32 z).wf = true) ∧
      ∀ W', Below W.heap.size W W' → ∀ sp : Nat → Bool, (∀ q ∈ y.2, sp q.block = true) → ∃ k, DataW.trod enc Tryz.prog W' 0 sp true k 23 [v] = some y := by
  have hf : ∃ A n c, v = .slice A n c := by
    rcases open_ints Tryz.underlying23 Tryz.underlying77 Tryz.cells_u32 h with ⟨hcs, _⟩ | ⟨a, len', cap', zs, hcs, _⟩
    · injection hcs with hcs; exact ⟨_, _, _, hcs⟩
    · injection hcs with hcs; exact ⟨_, _, _, hcs⟩
  obtain ⟨A, m, c, rfl⟩ := hf
  obtain ⟨hrow, hagain⟩ := open_row (p := y.2) (d := y.1) Tryz.underlying23 Tryz.underlying77 Tryz.cells_u32 ⟨n, by simpa [Value.cells] using h⟩
  refine ⟨A, m, c, rfl, hrow, fun W' hb sp hsp => ?_⟩
  obtain ⟨n2, hs⟩ := hagain W' hb sp hsp
  exact ⟨n2, by simpa [Value.cells] using hs⟩
set_option maxRecDepth 100000 in
theorem open_ratarg {H : Type} {enc : TypeId × Value → H} {W : World} {base : Nat} {v : Value} {d : DataW H} {p : List MemPlace} (hv : Value.okWide Tryz.prog W .any base 27 v)
    (h0 : DataW.Trod enc Tryz.prog W 0 (fun _ => true) true 27 v d p) :
    ∃ s A n c D m e, v = .agg #[.bool s, .slice A n c, .slice D m e] ∧
      (n ≤ c ∧ n ≤ 9223372036854775807 ∧ ∀ j, j < n → ∃ ad z, A = some ad ∧ ad.block < W.heap.size ∧ W.cell? (ad.add j) = some (.int .u32 z) ∧ (Lit.int .u32 z).wf = true) ∧
      (m ≤ e ∧ m ≤ 9223372036854775807 ∧ ∀ j, j < m → ∃ ad z, D = some ad ∧ ad.block < W.heap.size ∧ W.cell? (ad.add j) = some (.int .u32 z) ∧ (Lit.int .u32 z).wf = true) ∧
      ∀ W', Below W.heap.size W W' → ∀ sp : Nat → Bool, (∀ q ∈ p, sp q.block = true) → DataW.Trod enc Tryz.prog W' 0 sp true 27 v d p := by
  obtain ⟨cs, rfl, hsz⟩ := okWide_struct Tryz.underlying27 hv
  obtain ⟨c0, c1, c2, rfl⟩ := array3 (hsz.trans cells_rat3)
  obtain ⟨fuel, hf⟩ := h0
  obtain ⟨y0, y1, n, hx, _, g0, g1⟩ := trod_struct2 Tryz.underlying27 hf
  have g0' : DataW.trod enc Tryz.prog W 0 (fun _ => true) true n 25 [c0, c1] = some y0 := by simpa [cells_int2, Value.cells] using g0
  have g1' : DataW.trod enc Tryz.prog W 0 (fun _ => true) true n 23 [c2] = some y1 := by simpa [cells_nat1, Value.cells] using g1
  clear g0 g1
  obtain ⟨z0, z1, n1, hx1, _, k0, k1⟩ := trod_struct2 Tryz.underlying25 g0'
  have k0' : DataW.trod enc Tryz.prog W 0 (fun _ => true) true n1 4 [c0] = some z0 := by simpa [cells_bool1] using k0
  have k1' : DataW.trod enc Tryz.prog W 0 (fun _ => true) true n1 23 [c1] = some z1 := by simpa [cells_nat1] using k1
  clear k0 k1 g0'
  obtain ⟨s, rfl, rfl⟩ := open_boolcell Tryz.underlying4 k0'
  obtain ⟨A, m, c, rfl, r1, a1⟩ := open_natcell k1'
  obtain ⟨D, m', e, rfl, r2, a2⟩ := open_natcell g1'
  simp only [Prod.mk.injEq] at hx
  obtain ⟨rfl, rfl⟩ := hx
  subst hx1
  refine ⟨s, A, m, c, D, m', e, rfl, r1, r2, fun W' hb sp hsp => ?_⟩
  obtain ⟨j1, t1⟩ := a1 W' hb sp (fun q hq => hsp q (by simp [hq]))
  obtain ⟨j2, t2⟩ := a2 W' hb sp (fun q hq => hsp q (by simp [hq]))
  have hb1 : ∃ k, DataW.trod enc Tryz.prog W' 0 sp true k 4 [.bool s] = some (.lit (.bool s), []) := by
    obtain ⟨k, hk⟩ := shut_bool (enc := enc) (w := W') (base := 0) (spare := sp) (held := true) Tryz.underlying4 s
    exact ⟨k, by simpa [Value.cells] using hk⟩
  obtain ⟨j0, t0⟩ := hb1
  have u0 := trod_struct2_mk (enc := enc) (w := W') (base := 0) (spare := sp) (held := true) (n := max j0 j1) (cs := [.bool s, .slice A m c]) Tryz.underlying25 (by simp [cells_int2])
    (by simpa [cells_bool1] using DataW.trod_le (Nat.le_max_left j0 j1) t0) (by simpa [cells_nat1] using DataW.trod_le (Nat.le_max_right j0 j1) t1)
  have u := trod_struct2_mk (enc := enc) (w := W') (base := 0) (spare := sp) (held := true) (n := max (max j0 j1 + 1) j2) (cs := [.bool s, .slice A m c, .slice D m' e]) Tryz.underlying27 (by simp [cells_rat3])
    (by simpa [cells_int2] using DataW.trod_le (Nat.le_max_left (max j0 j1 + 1) j2) u0) (by simpa [cells_nat1] using DataW.trod_le (Nat.le_max_right (max j0 j1 + 1) j2) t2)
  exact ⟨_, by simpa [Value.cells] using u⟩
end Go.Proofs.YtkhfadfjkmhpgaaGreatDoor
