/-
  Raws, ArgQ, ArgP in one text.
-/
import Derived.Test.YtlpgbflajcfgpaaGreatDoorK1
import Derived.Test.YtlpgbflajcfgpaaGreatDoorE1
import Derived.Test.YtlpgbflajcfgpaaGreatDoorE2
import Derived.Test.YtlpgbflajcfgpaaGreatDoorE3
import Derived.Test.YtlpgbflajcfgpaaGreatDoorE4
import Derived.Test.YtlpgbflajcfgpaaGreatDoorEY
import Derived.Test.YtlpgbflajcfgpaaGreatDoorEZ
import Derived.Test.YtlpgbflajcfgpaaGreatDoorB1
import Derived.Lib.SmallJoins
namespace Go.Proofs.YtlpgbflajcfgpaaGreatDoor
open Go.RowKit

theorem wf_u32 {z : Int} (h : (Lit.int .u32 z).wf = true) : ∃ u : Nat, z = (u : Int) ∧ u < 4294967296 := by
  simp [Lit.wf, IntKind.min, IntKind.max, IntKind.bits, IntKind.signed] at h
  exact ⟨z.toNat, by omega, by omega⟩
theorem raw_of_cells {W : World} {A : Option Addr} {n c : Nat} (hnc : n ≤ c) (hcell : ∀ j, j < n → ∃ ad z, A = some ad ∧ ad.block < W.heap.size ∧ W.cell? (ad.add j) = some (.int .u32 z) ∧ (Lit.int .u32 z).wf = true) (hn : n ≤ 1000000000) : ∃ ds, Raw W (.slice A n c) ds := by
  have key : ∀ k, k ≤ n → ∃ ds : List Nat, ds.length = k ∧ OkD ds ∧ ∀ j, j < k → ∃ ad, A = some ad ∧ ad.block < W.heap.size ∧ W.cell? (ad.add j) = some (.int .u32 (ds.getD j 0 : Nat)) := by
    intro k
    induction k with
    | zero => intro _; exact ⟨[], rfl, okD_nil, fun j hj => by omega⟩
    | succ k ih =>
      intro hk
      obtain ⟨ds, h1, h2, h3⟩ := ih (by omega)
      obtain ⟨ad, z, e1, e2, e3, e4⟩ := hcell k (by omega)
      obtain ⟨u, rfl, hu⟩ := wf_u32 e4
      refine ⟨ds ++ [u], by simp [h1], okD_append.2 ⟨h2, okD_cons.2 ⟨hu, okD_nil⟩⟩, fun j hj => ?_⟩
      rcases Nat.lt_or_ge j k with hlt | hge
      · obtain ⟨ad', f1, f2, f3⟩ := h3 j hlt
        refine ⟨ad', f1, f2, f3.trans ?_⟩
        rw [List.getD_eq_getElem?_getD, List.getD_eq_getElem?_getD, List.getElem?_append_left (by omega)]
      · obtain rfl : j = k := by omega
        refine ⟨ad, e1, e2, e3.trans ?_⟩
        rw [List.getD_eq_getElem?_getD, List.getElem?_append_right (by omega), h1]
        simp
  obtain ⟨ds, h1, h2, h3⟩ := key n (Nat.le_refl n)
  exact ⟨ds, h2, by omega, A, c, by rw [h1], by omega, fun j hj => h3 j (by omega)⟩
end Go.Proofs.YtlpgbflajcfgpaaGreatDoor
namespace Go.Proofs.YtlpgbflajcfgpaaGreatDoor
open Go.ChangeShapes Go.WideShapes Go.ChangeAt Go.WideMaps Go.WideElems Go.RowKit Go.Deep Go.Joins

theorem open_boolcell {H : Type} {enc : TypeId × Value → H} {W : World} {base : Nat} {sp : Nat → Bool} {held : Bool} {t : TypeId} {n : Nat} {v : Value} {y : DataW H × List MemPlace} (ht : Tryz.prog.underlying t = some .bool) (h : DataW.trod enc Tryz.prog W base sp held n t [v] = some y) :
    ∃ b, v = .bool b ∧ y = (.lit (.bool b), []) := by
  obtain ⟨b, h1, h2⟩ := DataW.trod_bool ht h
  injection h1 with h1
  exact ⟨b, h1, h2⟩
theorem cells_int2 : Tryz.prog.cellsOf 25 = 2 := by kernel_rfl
theorem cells_rat3 : Tryz.prog.cellsOf 27 = 3 := by kernel_rfl
theorem cells_nat1 : Tryz.prog.cellsOf 23 = 1 := by kernel_rfl
theorem cells_bool1 : Tryz.prog.cellsOf 4 = 1 := by kernel_rfl
theorem open_natcell {H : Type} {enc : TypeId × Value → H} {W : World} {n : Nat} {v : Value} {y : DataW H × List MemPlace} (h : DataW.trod enc Tryz.prog W 0 (fun _ => true) true n 23 [v] = some y) :
    ∃ A m c, v = .slice A m c ∧
      (m ≤ c ∧ m ≤ 9223372036854775807 ∧ ∀ j, j < m → ∃ ad z, A = some ad ∧ ad.block < W.heap.size ∧ W.cell? (ad.add j) = some (.int .u32 z) ∧ (Lit.int .u32 z).wf = true) ∧
      ∀ W', Below W.heap.size W W' → ∀ sp : Nat → Bool, (∀ q ∈ y.2, sp q.block = true) → ∃ k, DataW.trod enc Tryz.prog W' 0 sp true k 23 [v] = some y := by
  have hf : ∃ A n c, v = .slice A n c := by
    rcases open_ints Tryz.underlying23 Tryz.underlying97 Tryz.cells_u32 h with ⟨hcs, _⟩ | ⟨a, len', cap', zs, hcs, _⟩
    · injection hcs with hcs; exact ⟨_, _, _, hcs⟩
    · injection hcs with hcs; exact ⟨_, _, _, hcs⟩
  obtain ⟨A, m, c, rfl⟩ := hf
  obtain ⟨hrow, hagain⟩ := open_row (p := y.2) (d := y.1) Tryz.underlying23 Tryz.underlying97 Tryz.cells_u32 ⟨n, by simpa [Value.cells] using h⟩
  refine ⟨A, m, c, rfl, hrow, fun W' hb sp hsp => ?_⟩
  obtain ⟨n2, hs⟩ := hagain W' hb sp hsp
  exact ⟨n2, by simpa [Value.cells] using hs⟩
end Go.Proofs.YtlpgbflajcfgpaaGreatDoor
namespace Go.Proofs.YtlpgbflajcfgpaaGreatDoor
open Go.ChangeShapes Go.WideShapes Go.ChangeAt Go.WideMaps Go.WideElems Go.RowKit

theorem cells_point6 : Tryz.prog.cellsOf 29 = 6 := by kernel_rfl
theorem array6 {a : Array Value} (h : a.size = 6) : ∃ c0 c1 c2 c3 c4 c5, a = #[c0, c1, c2, c3, c4, c5] := by
  obtain ⟨l⟩ := a
  match l, h with
  | [c0, c1, c2, c3, c4, c5], _ => exact ⟨c0, c1, c2, c3, c4, c5, rfl⟩
set_option maxRecDepth 100000 in
theorem open_ratcells {H : Type} {enc : TypeId × Value → H} {W : World} {fuel : Nat} {v0 v1 v2 : Value} {y : DataW H × List MemPlace}
    (hf : DataW.trod enc Tryz.prog W 0 (fun _ => true) true fuel 27 [v0, v1, v2] = some y) :
    ∃ s A n c D m e, v0 = .bool s ∧ v1 = .slice A n c ∧ v2 = .slice D m e ∧
      (n ≤ c ∧ n ≤ 9223372036854775807 ∧ ∀ j, j < n → ∃ ad z, A = some ad ∧ ad.block < W.heap.size ∧ W.cell? (ad.add j) = some (.int .u32 z) ∧ (Lit.int .u32 z).wf = true) ∧
      (m ≤ e ∧ m ≤ 9223372036854775807 ∧ ∀ j, j < m → ∃ ad z, D = some ad ∧ ad.block < W.heap.size ∧ W.cell? (ad.add j) = some (.int .u32 z) ∧ (Lit.int .u32 z).wf = true) ∧
      ∀ W', Below W.heap.size W W' → ∀ sp : Nat → Bool, (∀ q ∈ y.2, sp q.block = true) → ∃ k, DataW.trod enc Tryz.prog W' 0 sp true k 27 [.bool s, .slice A n c, .slice D m e] = some y := by
  obtain ⟨y0, y1, n, hx, _, g0, g1⟩ := trod_struct2 Tryz.underlying27 hf
  have g0' : DataW.trod enc Tryz.prog W 0 (fun _ => true) true n 25 [v0, v1] = some y0 := by simpa [cells_int2, Value.cells] using g0
  have g1' : DataW.trod enc Tryz.prog W 0 (fun _ => true) true n 23 [v2] = some y1 := by simpa [cells_nat1, Value.cells] using g1
  clear g0 g1
  obtain ⟨z0, z1, n1, hx1, _, k0, k1⟩ := trod_struct2 Tryz.underlying25 g0'
  have k0' : DataW.trod enc Tryz.prog W 0 (fun _ => true) true n1 4 [v0] = some z0 := by simpa [cells_bool1] using k0
  have k1' : DataW.trod enc Tryz.prog W 0 (fun _ => true) true n1 23 [v1] = some z1 := by simpa [cells_nat1] using k1
  clear k0 k1 g0'
  obtain ⟨s, rfl, rfl⟩ := open_boolcell Tryz.underlying4 k0'
  obtain ⟨A, m, c, rfl, r1, a1⟩ := open_natcell k1'
  obtain ⟨D, m', e, rfl, r2, a2⟩ := open_natcell g1'
  subst hx
  subst hx1
  refine ⟨s, A, m, c, D, m', e, rfl, rfl, rfl, r1, r2, fun W' hb sp hsp => ?_⟩
  obtain ⟨j1, t1⟩ := a1 W' hb sp (fun q hq => hsp q (by simp [hq]))
  obtain ⟨j2, t2⟩ := a2 W' hb sp (fun q hq => hsp q (by simp [hq]))
  have hb1 : ∃ k, DataW.trod enc Tryz.prog W' 0 sp true k 4 [.bool s] = some (.lit (.bool s), []) := by
    obtain ⟨k, hk⟩ := shut_bool (enc := enc) (w := W') (base := 0) (spare := sp) (held := true) Tryz.underlying4 s
    exact ⟨k, by simpa [Value.cells] using hk⟩
  obtain ⟨j0, t0⟩ := hb1
  have u0 := trod_struct2_mk (enc := enc) (w := W') (base := 0) (spare := sp) (held := true) (n := max j0 j1) (cs := [.bool s, .slice A m c]) Tryz.underlying25 (by simp [cells_int2])
    (by simpa [cells_bool1] using DataW.trod_le (Nat.le_max_left j0 j1) t0) (by simpa [cells_nat1] using DataW.trod_le (Nat.le_max_right j0 j1) t1)
  have u := trod_struct2_mk (enc := enc) (w := W') (base := 0) (spare := sp) (held := true) (n := max (max j0 j1 + 1) j2) (cs := [.bool s, .slice A m c, .slice D m' e]) Tryz.underlying27 (by simp [cells_rat3])
    (by simpa [cells_int2] using DataW.trod_le (Nat.le_max_left (max j0 j1 + 1) j2) u0) (by simpa [cells_nat1] using DataW.trod_le (Nat.le_max_right (max j0 j1 + 1) j2) t2)
  exact ⟨_, by simpa [Value.cells] using u⟩
set_option maxRecDepth 100000 in
theorem open_pointarg {H : Type} {enc : TypeId × Value → H} {W : World} {base : Nat} {v : Value} {d : DataW H} {p : List MemPlace} (hv : Value.okWide Tryz.prog W .any base 29 v)
    (h0 : DataW.Trod enc Tryz.prog W 0 (fun _ => true) true 29 v d p) :
    ∃ s0 A0 n0 c0 D0 m0 e0 s1 A1 n1 c1 D1 m1 e1, v = .agg #[.bool s0, .slice A0 n0 c0, .slice D0 m0 e0, .bool s1, .slice A1 n1 c1, .slice D1 m1 e1] ∧
      (n0 ≤ c0 ∧ n0 ≤ 9223372036854775807 ∧ ∀ j, j < n0 → ∃ ad z, A0 = some ad ∧ ad.block < W.heap.size ∧ W.cell? (ad.add j) = some (.int .u32 z) ∧ (Lit.int .u32 z).wf = true) ∧ (m0 ≤ e0 ∧ m0 ≤ 9223372036854775807 ∧ ∀ j, j < m0 → ∃ ad z, D0 = some ad ∧ ad.block < W.heap.size ∧ W.cell? (ad.add j) = some (.int .u32 z) ∧ (Lit.int .u32 z).wf = true) ∧ (n1 ≤ c1 ∧ n1 ≤ 9223372036854775807 ∧ ∀ j, j < n1 → ∃ ad z, A1 = some ad ∧ ad.block < W.heap.size ∧ W.cell? (ad.add j) = some (.int .u32 z) ∧ (Lit.int .u32 z).wf = true) ∧ (m1 ≤ e1 ∧ m1 ≤ 9223372036854775807 ∧ ∀ j, j < m1 → ∃ ad z, D1 = some ad ∧ ad.block < W.heap.size ∧ W.cell? (ad.add j) = some (.int .u32 z) ∧ (Lit.int .u32 z).wf = true) ∧
      ∀ W', Below W.heap.size W W' → ∀ sp : Nat → Bool, (∀ q ∈ p, sp q.block = true) → DataW.Trod enc Tryz.prog W' 0 sp true 29 v d p := by
  obtain ⟨cs, rfl, hsz⟩ := okWide_struct Tryz.underlying29 hv
  obtain ⟨x0, x1, x2, x3, x4, x5, rfl⟩ := array6 (hsz.trans cells_point6)
  obtain ⟨fuel, hf⟩ := h0
  obtain ⟨y0, y1, n, hx, _, g0, g1⟩ := trod_struct2 Tryz.underlying29 hf
  have g0' : DataW.trod enc Tryz.prog W 0 (fun _ => true) true n 27 [x0, x1, x2] = some y0 := by simpa [cells_rat3, Value.cells] using g0
  have g1' : DataW.trod enc Tryz.prog W 0 (fun _ => true) true n 27 [x3, x4, x5] = some y1 := by simpa [cells_rat3, Value.cells] using g1
  clear g0 g1
  obtain ⟨s0, A0, n0, c0, D0, m0, e0, rfl, rfl, rfl, r0, r0', a0⟩ := open_ratcells g0'
  obtain ⟨s1, A1, n1, c1, D1, m1, e1, rfl, rfl, rfl, r1, r1', a1⟩ := open_ratcells g1'
  simp only [Prod.mk.injEq] at hx
  obtain ⟨rfl, rfl⟩ := hx
  refine ⟨s0, A0, n0, c0, D0, m0, e0, s1, A1, n1, c1, D1, m1, e1, rfl, r0, r0', r1, r1', fun W' hb sp hsp => ?_⟩
  obtain ⟨j0, t0⟩ := a0 W' hb sp (fun q hq => hsp q (by simp [hq]))
  obtain ⟨j1, t1⟩ := a1 W' hb sp (fun q hq => hsp q (by simp [hq]))
  have u := trod_struct2_mk (enc := enc) (w := W') (base := 0) (spare := sp) (held := true) (n := max j0 j1) (cs := [.bool s0, .slice A0 n0 c0, .slice D0 m0 e0, .bool s1, .slice A1 n1 c1, .slice D1 m1 e1]) Tryz.underlying29 (by simp [cells_point6])
    (by simpa [cells_rat3] using DataW.trod_le (Nat.le_max_left j0 j1) t0) (by simpa [cells_rat3] using DataW.trod_le (Nat.le_max_right j0 j1) t1)
  exact ⟨_, by simpa [Value.cells] using u⟩
end Go.Proofs.YtlpgbflajcfgpaaGreatDoor
