/-
  An argument that is a list of spans, or a number, opened and shut.
-/
import Derived.Test.YtpgkkkodniiilaaGreatDoorWVr
import Derived.Test.YtpgkkkodniiilaaGreatDoorWShutC
import Derived.Lib.SmallJoins
import Derived.Deep.Slices
namespace Go.Proofs.YtpgkkkodniiilaaGreatDoor
open Go.ChangeShapes Go.WideShapes Go.ChangeAt Go.WideMaps Go.WideElems Go.RowKit Go.Deep Go.Joins
theorem Tryz.cells_u32 : Tryz.prog.cellsOf 160 = 1 := by kernel_rfl
theorem open_boolcell {H : Type} {enc : TypeId × Value → H} {W : World} {base : Nat} {sp : Nat → Bool} {held : Bool} {t : TypeId} {n : Nat} {v : Value} {y : DataW H × List MemPlace} (ht : Tryz.prog.underlying t = some .bool) (h : DataW.trod enc Tryz.prog W base sp held n t [v] = some y) :
    ∃ b, v = .bool b ∧ y = (.lit (.bool b), []) := by
  obtain ⟨b, h1, h2⟩ := DataW.trod_bool ht h
  injection h1 with h1
  exact ⟨b, h1, h2⟩
theorem cells_int2 : Tryz.prog.cellsOf 26 = 2 := by kernel_rfl
theorem cells_rat3 : Tryz.prog.cellsOf 28 = 3 := by kernel_rfl
theorem cells_nat1 : Tryz.prog.cellsOf 24 = 1 := by kernel_rfl
theorem cells_bool1 : Tryz.prog.cellsOf 4 = 1 := by kernel_rfl
theorem open_natcell {H : Type} {enc : TypeId × Value → H} {W : World} {n : Nat} {v : Value} {y : DataW H × List MemPlace} (h : DataW.trod enc Tryz.prog W 0 (fun _ => true) true n 24 [v] = some y) :
    ∃ A m c, v = .slice A m c ∧
      (m ≤ c ∧ m ≤ 9223372036854775807 ∧ ∀ j, j < m → ∃ ad z, A = some ad ∧ ad.block < W.heap.size ∧ W.cell? (ad.add j) = some (.int .u32 z) ∧ (Lit.int .u32 z).wf = true) ∧
      ∀ W', Below W.heap.size W W' → ∀ sp : Nat → Bool, (∀ q ∈ y.2, sp q.block = true) → ∃ k, DataW.trod enc Tryz.prog W' 0 sp true k 24 [v] = some y := by
  have hf : ∃ A n c, v = .slice A n c := by
    rcases open_ints Tryz.underlying24 Tryz.underlying160 Tryz.cells_u32 h with ⟨hcs, _⟩ | ⟨a, len', cap', zs, hcs, _⟩
    · injection hcs with hcs; exact ⟨_, _, _, hcs⟩
    · injection hcs with hcs; exact ⟨_, _, _, hcs⟩
  obtain ⟨A, m, c, rfl⟩ := hf
  obtain ⟨hrow, hagain⟩ := open_row (p := y.2) (d := y.1) Tryz.underlying24 Tryz.underlying160 Tryz.cells_u32 ⟨n, by simpa [Value.cells] using h⟩
  refine ⟨A, m, c, rfl, hrow, fun W' hb sp hsp => ?_⟩
  obtain ⟨n2, hs⟩ := hagain W' hb sp hsp
  exact ⟨n2, by simpa [Value.cells] using hs⟩
set_option maxRecDepth 100000 in
theorem open_ratarg {H : Type} {enc : TypeId × Value → H} {W : World} {base : Nat} {v : Value} {d : DataW H} {p : List MemPlace} (hv : Value.okWide Tryz.prog W .any base 28 v)
    (h0 : DataW.Trod enc Tryz.prog W 0 (fun _ => true) true 28 v d p) :
    ∃ s A n c D m e, v = .agg #[.bool s, .slice A n c, .slice D m e] ∧
      (n ≤ c ∧ n ≤ 9223372036854775807 ∧ ∀ j, j < n → ∃ ad z, A = some ad ∧ ad.block < W.heap.size ∧ W.cell? (ad.add j) = some (.int .u32 z) ∧ (Lit.int .u32 z).wf = true) ∧
      (m ≤ e ∧ m ≤ 9223372036854775807 ∧ ∀ j, j < m → ∃ ad z, D = some ad ∧ ad.block < W.heap.size ∧ W.cell? (ad.add j) = some (.int .u32 z) ∧ (Lit.int .u32 z).wf = true) ∧
      ∀ W', Below W.heap.size W W' → ∀ sp : Nat → Bool, (∀ q ∈ p, sp q.block = true) → DataW.Trod enc Tryz.prog W' 0 sp true 28 v d p := by
  obtain ⟨cs, rfl, hsz⟩ := okWide_struct Tryz.underlying28 hv
  obtain ⟨c0, c1, c2, rfl⟩ := array3 (hsz.trans cells_rat3)
  obtain ⟨fuel, hf⟩ := h0
  obtain ⟨y0, y1, n, hx, _, g0, g1⟩ := trod_struct2 Tryz.underlying28 hf
  have g0' : DataW.trod enc Tryz.prog W 0 (fun _ => true) true n 26 [c0, c1] = some y0 := by simpa [cells_int2, Value.cells] using g0
  have g1' : DataW.trod enc Tryz.prog W 0 (fun _ => true) true n 24 [c2] = some y1 := by simpa [cells_nat1, Value.cells] using g1
  clear g0 g1
  obtain ⟨z0, z1, n1, hx1, _, k0, k1⟩ := trod_struct2 Tryz.underlying26 g0'
  have k0' : DataW.trod enc Tryz.prog W 0 (fun _ => true) true n1 4 [c0] = some z0 := by simpa [cells_bool1] using k0
  have k1' : DataW.trod enc Tryz.prog W 0 (fun _ => true) true n1 24 [c1] = some z1 := by simpa [cells_nat1] using k1
  clear k0 k1 g0'
  obtain ⟨s, rfl, rfl⟩ := open_boolcell Tryz.underlying4 k0'
  obtain ⟨A, m, c, rfl, r1, a1⟩ := open_natcell k1'
  obtain ⟨D, m', e, rfl, r2, a2⟩ := open_natcell g1'
  simp only [Prod.mk.injEq] at hx
  obtain ⟨rfl, rfl⟩ := hx
  subst hx1
  refine ⟨s, A, m, c, D, m', e, rfl, r1, r2, fun W' hb sp hsp => ?_⟩
  obtain ⟨j1, t1⟩ := a1 W' hb sp (fun q hq => hsp q (by simp [hq]))
  obtain ⟨j2, t2⟩ := a2 W' hb sp (fun q hq => hsp q (by simp [hq]))
  have hb1 : ∃ k, DataW.trod enc Tryz.prog W' 0 sp true k 4 [.bool s] = some (.lit (.bool s), []) := by
    obtain ⟨k, hk⟩ := shut_bool (enc := enc) (w := W') (base := 0) (spare := sp) (held := true) Tryz.underlying4 s
    exact ⟨k, by simpa [Value.cells] using hk⟩
  obtain ⟨j0, t0⟩ := hb1
  have u0 := trod_struct2_mk (enc := enc) (w := W') (base := 0) (spare := sp) (held := true) (n := max j0 j1) (cs := [.bool s, .slice A m c]) Tryz.underlying26 (by simp [cells_int2])
    (by simpa [cells_bool1] using DataW.trod_le (Nat.le_max_left j0 j1) t0) (by simpa [cells_nat1] using DataW.trod_le (Nat.le_max_right j0 j1) t1)
  have u := trod_struct2_mk (enc := enc) (w := W') (base := 0) (spare := sp) (held := true) (n := max (max j0 j1 + 1) j2) (cs := [.bool s, .slice A m c, .slice D m' e]) Tryz.underlying28 (by simp [cells_rat3])
    (by simpa [cells_int2] using DataW.trod_le (Nat.le_max_left (max j0 j1 + 1) j2) u0) (by simpa [cells_nat1] using DataW.trod_le (Nat.le_max_right (max j0 j1 + 1) j2) t2)
  exact ⟨_, by simpa [Value.cells] using u⟩
theorem wf_u32 {z : Int} (h : (Lit.int .u32 z).wf = true) : ∃ u : Nat, z = (u : Int) ∧ u < 4294967296 := by
  simp [Lit.wf, IntKind.min, IntKind.max, IntKind.bits, IntKind.signed] at h
  exact ⟨z.toNat, by omega, by omega⟩
theorem raw_of_cells {W : World} {A : Option Addr} {n c : Nat} (hnc : n ≤ c) (hcell : ∀ j, j < n → ∃ ad z, A = some ad ∧ ad.block < W.heap.size ∧ W.cell? (ad.add j) = some (.int .u32 z) ∧ (Lit.int .u32 z).wf = true) (hn : n ≤ 1000000000) : ∃ ds, Raw W (.slice A n c) ds := by
  have key : ∀ k, k ≤ n → ∃ ds : List Nat, ds.length = k ∧ OkD ds ∧ ∀ j, j < k → ∃ ad, A = some ad ∧ ad.block < W.heap.size ∧ W.cell? (ad.add j) = some (.int .u32 (ds.getD j 0 : Nat)) := by
    intro k
    induction k with
    | zero => intro _; exact ⟨[], rfl, okD_nil, fun j hj => by omega⟩
    | succ k ih =>
      intro hk
      obtain ⟨ds, h1, h2, h3⟩ := ih (by omega)
      obtain ⟨ad, z, e1, e2, e3, e4⟩ := hcell k (by omega)
      obtain ⟨u, rfl, hu⟩ := wf_u32 e4
      refine ⟨ds ++ [u], by simp [h1], okD_append.2 ⟨h2, okD_cons.2 ⟨hu, okD_nil⟩⟩, fun j hj => ?_⟩
      rcases Nat.lt_or_ge j k with hlt | hge
      · obtain ⟨ad', f1, f2, f3⟩ := h3 j hlt
        refine ⟨ad', f1, f2, f3.trans ?_⟩
        rw [List.getD_eq_getElem?_getD, List.getD_eq_getElem?_getD, List.getElem?_append_left (by omega)]
      · obtain rfl : j = k := by omega
        refine ⟨ad, e1, e2, e3.trans ?_⟩
        rw [List.getD_eq_getElem?_getD, List.getElem?_append_right (by omega), h1]
        simp
  obtain ⟨ds, h1, h2, h3⟩ := key n (Nat.le_refl n)
  exact ⟨ds, h2, by omega, A, c, by rw [h1], by omega, fun j hj => h3 j (by omega)⟩
theorem cells_span8 : Tryz.prog.cellsOf 32 = 8 := by kernel_rfl
/-- The digits that a slice of an argument leads to. -/
def NatC (W : World) (A : Option Addr) (n c : Nat) : Prop := n ≤ c ∧ n ≤ 9223372036854775807 ∧ ∀ j, j < n → ∃ ad z, A = some ad ∧ ad.block < W.heap.size ∧ W.cell? (ad.add j) = some (.int .u32 z) ∧ (Lit.int .u32 z).wf = true
theorem NatC.raw {W : World} {A : Option Addr} {n c : Nat} (h : NatC W A n c) (hn : n ≤ 4) : ∃ ds, Raw W (.slice A n c) ds := raw_of_cells h.1 h.2.2 (by omega)
set_option maxRecDepth 100000 in
theorem open_ratcells {H : Type} {enc : TypeId × Value → H} {W : World} {n : Nat} {cs : List Value} {y : DataW H × List MemPlace} (h : DataW.trod enc Tryz.prog W 0 (fun _ => true) true n 28 cs = some y) :
    ∃ s A k c D m e, cs = [.bool s, .slice A k c, .slice D m e] ∧ NatC W A k c ∧ NatC W D m e ∧ ∀ W', Below W.heap.size W W' → ∀ sp : Nat → Bool, (∀ q ∈ y.2, sp q.block = true) → ∃ k, DataW.trod enc Tryz.prog W' 0 sp true k 28 cs = some y := by
  obtain ⟨y0, y1, n', hx, hlen, g0, g1⟩ := trod_struct2 Tryz.underlying28 h
  rw [cells_rat3] at hlen
  match cs, hlen with
  | [c0, c1, c2], _ =>
    have g0' : DataW.trod enc Tryz.prog W 0 (fun _ => true) true n' 26 [c0, c1] = some y0 := by simpa [cells_int2] using g0
    have g1' : DataW.trod enc Tryz.prog W 0 (fun _ => true) true n' 24 [c2] = some y1 := by simpa [cells_nat1] using g1
    clear g0 g1
    obtain ⟨z0, z1, n1, hx1, _, k0, k1⟩ := trod_struct2 Tryz.underlying26 g0'
    have k0' : DataW.trod enc Tryz.prog W 0 (fun _ => true) true n1 4 [c0] = some z0 := by simpa [cells_bool1] using k0
    have k1' : DataW.trod enc Tryz.prog W 0 (fun _ => true) true n1 24 [c1] = some z1 := by simpa [cells_nat1] using k1
    clear k0 k1 g0'
    obtain ⟨s, rfl, rfl⟩ := open_boolcell Tryz.underlying4 k0'
    obtain ⟨A, m, c, rfl, r1, a1⟩ := open_natcell k1'
    obtain ⟨D, m', e, rfl, r2, a2⟩ := open_natcell g1'
    subst hx hx1
    refine ⟨s, A, m, c, D, m', e, rfl, r1, r2, fun W' hb sp hsp => ?_⟩
    obtain ⟨j1, t1⟩ := a1 W' hb sp (fun q hq => hsp q (by simp [hq]))
    obtain ⟨j2, t2⟩ := a2 W' hb sp (fun q hq => hsp q (by simp [hq]))
    obtain ⟨j0, t0⟩ : ∃ k, DataW.trod enc Tryz.prog W' 0 sp true k 4 [.bool s] = some (.lit (.bool s), []) := by
      obtain ⟨k, hk⟩ := shut_bool (enc := enc) (w := W') (base := 0) (spare := sp) (held := true) Tryz.underlying4 s
      exact ⟨k, by simpa [Value.cells] using hk⟩
    have u0 := trod_struct2_mk (enc := enc) (w := W') (base := 0) (spare := sp) (held := true) (n := max j0 j1) (cs := [.bool s, .slice A m c]) Tryz.underlying26 (by simp [cells_int2])
      (by simpa [cells_bool1] using DataW.trod_le (Nat.le_max_left j0 j1) t0) (by simpa [cells_nat1] using DataW.trod_le (Nat.le_max_right j0 j1) t1)
    have u := trod_struct2_mk (enc := enc) (w := W') (base := 0) (spare := sp) (held := true) (n := max (max j0 j1 + 1) j2) (cs := [.bool s, .slice A m c, .slice D m' e]) Tryz.underlying28 (by simp [cells_rat3])
      (by simpa [cells_int2] using DataW.trod_le (Nat.le_max_left (max j0 j1 + 1) j2) u0) (by simpa [cells_nat1] using DataW.trod_le (Nat.le_max_right (max j0 j1 + 1) j2) t2)
    exact ⟨_, u⟩
set_option maxRecDepth 100000 in
theorem open_spancells {H : Type} {enc : TypeId × Value → H} {W : World} {n : Nat} {cs : List Value} {y : DataW H × List MemPlace} (h : DataW.trod enc Tryz.prog W 0 (fun _ => true) true n 32 cs = some y) :
    ∃ s0 A0 n0 c0 D0 m0 e0 s1 A1 n1 c1 D1 m1 e1 f0 h0, cs = [.bool s0, .slice A0 n0 c0, .slice D0 m0 e0, .bool s1, .slice A1 n1 c1, .slice D1 m1 e1, .bool f0, .bool h0] ∧ NatC W A0 n0 c0 ∧ NatC W D0 m0 e0 ∧ NatC W A1 n1 c1 ∧ NatC W D1 m1 e1 ∧ ∀ W', Below W.heap.size W W' → ∀ sp : Nat → Bool, (∀ q ∈ y.2, sp q.block = true) → ∃ k, DataW.trod enc Tryz.prog W' 0 sp true k 32 cs = some y := by
  obtain ⟨y0, y1, y2, y3, n', hx, hlen, g0, g1, g2, g3⟩ := trod_struct4 Tryz.underlying32 h
  rw [cells_span8] at hlen
  match cs, hlen with
  | [x0, x1, x2, x3, x4, x5, x6, x7], _ =>
    have g0' : DataW.trod enc Tryz.prog W 0 (fun _ => true) true n' 28 [x0, x1, x2] = some y0 := by simpa [cells_rat3] using g0
    have g1' : DataW.trod enc Tryz.prog W 0 (fun _ => true) true n' 28 [x3, x4, x5] = some y1 := by simpa [cells_rat3] using g1
    have g2' : DataW.trod enc Tryz.prog W 0 (fun _ => true) true n' 4 [x6] = some y2 := by simpa [cells_bool1] using g2
    have g3' : DataW.trod enc Tryz.prog W 0 (fun _ => true) true n' 4 [x7] = some y3 := by simpa [cells_bool1] using g3
    clear g0 g1 g2 g3
    obtain ⟨s0, A0, n0, c0, D0, m0, e0, hc0, k0, k1, a0⟩ := open_ratcells g0'
    obtain ⟨s1, A1, n1, c1, D1, m1, e1, hc1, k2, k3, a1⟩ := open_ratcells g1'
    obtain ⟨f0, rfl, rfl⟩ := open_boolcell Tryz.underlying4 g2'
    obtain ⟨h0, rfl, rfl⟩ := open_boolcell Tryz.underlying4 g3'
    simp only [List.cons.injEq, and_true] at hc0 hc1
    obtain ⟨rfl, rfl, rfl⟩ := hc0
    obtain ⟨rfl, rfl, rfl⟩ := hc1
    subst hx
    refine ⟨s0, A0, n0, c0, D0, m0, e0, s1, A1, n1, c1, D1, m1, e1, f0, h0, rfl, k0, k1, k2, k3, fun W' hb sp hsp => ?_⟩
    obtain ⟨j0, t0⟩ := a0 W' hb sp (fun q hq => hsp q (by simp [hq]))
    obtain ⟨j1, t1⟩ := a1 W' hb sp (fun q hq => hsp q (by simp [hq]))
    have hbl : ∀ b : Bool, ∃ k, DataW.trod enc Tryz.prog W' 0 sp true k 4 [.bool b] = some (.lit (.bool b), []) := fun b => by
      obtain ⟨k, hk⟩ := shut_bool (enc := enc) (w := W') (base := 0) (spare := sp) (held := true) Tryz.underlying4 b
      exact ⟨k, by simpa [Value.cells] using hk⟩
    obtain ⟨j2, t2⟩ := hbl f0
    obtain ⟨j3, t3⟩ := hbl h0
    obtain ⟨N, h4, h5, h6, h7⟩ : ∃ N, j0 ≤ N ∧ j1 ≤ N ∧ j2 ≤ N ∧ j3 ≤ N := ⟨max (max j0 j1) (max j2 j3), by omega, by omega, by omega, by omega⟩
    exact ⟨_, trod_struct4_mk (enc := enc) (w := W') (base := 0) (spare := sp) (held := true) (n := N) (cs := [.bool s0, .slice A0 n0 c0, .slice D0 m0 e0, .bool s1, .slice A1 n1 c1, .slice D1 m1 e1, .bool f0, .bool h0]) Tryz.underlying32 (by simp [cells_span8])
      (by simpa [cells_rat3] using DataW.trod_le h4 t0) (by simpa [cells_rat3] using DataW.trod_le h5 t1) (by simpa [cells_bool1] using DataW.trod_le h6 t2) (by simpa [cells_bool1] using DataW.trod_le h7 t3)⟩
theorem cell_spot {W : World} {a : Addr} {v : Value} (h : W.cell? a = some v) : a.spot = none := by
  unfold World.cell? at h
  split at h
  · split at h
    · cases h
    · rename_i hs; simpa using hs
  · cases h
theorem all2_range {R : List Value → Option Rw → Prop} {F : Nat → List Value} {G : Nat → Option Rw} (n : Nat) (h : ∀ i, i < n → R (F i) (G i)) : All2 R ((List.range n).map F) ((List.range n).map G) := by
  induction n with
  | zero => trivial
  | succ n ih =>
    rw [List.range_succ, List.map_append, List.map_append]
    exact All2.snoc (ih fun i hi => h i (by omega)) (h n (by omega))
theorem cells_below {W W' : World} {a : Addr} {n : Nat} {cs : List Value} (h : W.cells? 0 a n = some cs) (hb : Below W.heap.size W W') (ha : a.block < W.heap.size) : W'.cells? 0 a n = some cs := by
  unfold World.cells? at h ⊢
  rw [if_pos (Nat.zero_le _)] at h ⊢
  rw [← h]
  congr 1
  funext i
  exact hb.cell (by rw [addr_add_block]; exact ha)
set_option maxRecDepth 100000 in
theorem ane_of {W : World} {s0 : Bool} {A0 : Option Addr} {n0 : Nat} {c0 : Nat} {D0 : Option Addr} {m0 : Nat} {e0 : Nat} {s1 : Bool} {A1 : Option Addr} {n1 : Nat} {c1 : Nat} {D1 : Option Addr} {m1 : Nat} {e1 : Nat} {f0 : Bool} {h0 : Bool} (k0 : NatC W A0 n0 c0) (k1 : NatC W D0 m0 e0) (k2 : NatC W A1 n1 c1) (k3 : NatC W D1 m1 e1) : ∃ o, AnE W [.bool s0, .slice A0 n0 c0, .slice D0 m0 e0, .bool s1, .slice A1 n1 c1, .slice D1 m1 e1, .bool f0, .bool h0] o := by
  by_cases h : few4 n0 m0 n1 m1
  · obtain ⟨da, r0⟩ := k0.raw h.1
    obtain ⟨db, r1⟩ := k1.raw h.2.1
    obtain ⟨dc, r2⟩ := k2.raw h.2.2.1
    obtain ⟨de, r3⟩ := k3.raw h.2.2.2
    exact ⟨some ⟨s0, da, db, s1, dc, de, f0, h0⟩, s0, A0, n0, c0, D0, m0, e0, s1, A1, n1, c1, D1, m1, e1, f0, h0, rfl, .inr ⟨da, db, dc, de, rfl, h, r0, r1, r2, r3⟩⟩
  · exact ⟨none, s0, A0, n0, c0, D0, m0, e0, s1, A1, n1, c1, D1, m1, e1, f0, h0, rfl, .inl ⟨rfl, h⟩⟩
set_option maxRecDepth 100000 in
theorem open_spanarg {H : Type} {enc : TypeId × Value → H} {W : World} {A : Option Addr} {n c : Nat} {d : DataW H} {p : List MemPlace} (h0 : DataW.Trod enc Tryz.prog W 0 (fun _ => true) true 22 (.slice A n c) d p) :
    ∃ os, AnS W (.slice A n c) os ∧ ∀ W', Below W.heap.size W W' → ∀ sp : Nat → Bool, (∀ q ∈ p, sp q.block = true) → DataW.Trod enc Tryz.prog W' 0 sp true 22 (.slice A n c) d p := by
  obtain ⟨fuel, hf⟩ := h0
  rcases open_slice Tryz.underlying22 hf with ⟨hcs, hx⟩ | ⟨a, len, cap, m, n', D, Pl, hcs, hbase, hl, hm, hmm, hx, hel⟩
  · have hcs : [Value.slice A n c] = [.slice none 0 0] := hcs
    simp only [List.cons.injEq, and_true, Value.slice.injEq] at hcs
    obtain ⟨rfl, rfl, rfl⟩ := hcs
    simp only [Prod.mk.injEq] at hx
    obtain ⟨rfl, rfl⟩ := hx
    exact ⟨[], ⟨[], ⟨fun x hx => (by cases hx), none, 0, rfl, Nat.le_refl _, Nat.zero_le _, fun h => absurd rfl h⟩, trivial⟩, fun W' _ sp _ => shut_slice_nil Tryz.underlying22⟩
  · have hcs : [Value.slice A n c] = [.slice (some a) len cap] := hcs
    simp only [List.cons.injEq, and_true, Value.slice.injEq] at hcs
    obtain ⟨rfl, rfl, rfl⟩ := hcs
    simp only [if_true] at hmm
    obtain rfl : c = m := hmm.symm
    simp only [Prod.mk.injEq] at hx
    obtain ⟨rfl, rfl⟩ := hx
    rw [cells_span8] at hel
    obtain ⟨CS, hCS⟩ := choose_lt hel
    obtain ⟨OS, hOS⟩ := choose_lt (α := Option Rw) (p := fun i o => AnE W (CS i) o) fun i hi => by
      obtain ⟨_, h2⟩ := hCS i hi
      obtain ⟨s0, A0, n0, c0, D0, m0, e0, s1, A1, n1, c1, D1, m1, e1, f0, h0, h3, k0, k1, k2, k3, _⟩ := open_spancells h2
      rw [h3]; exact ane_of k0 k1 k2 k3
    refine ⟨(List.range n).map OS, ⟨(List.range n).map CS, ⟨fun cs hcs => ?_, some a, c, by simp, by simpa using hl, hm, fun hne => ?_⟩, all2_range n fun i hi => hOS i (by omega)⟩, fun W' hb sp hsp => ?_⟩
    · obtain ⟨i, hi, rfl⟩ := List.mem_map.1 hcs
      exact (World.cells?_some (hCS i (by have := List.mem_range.1 hi; omega)).1).2.1
    · have hn : 0 < n := by
        rcases Nat.eq_zero_or_pos n with h | h
        · subst h; exact absurd rfl hne
        · exact h
      have hsp : a.spot = none := by
        obtain ⟨h1, h2⟩ := hCS 0 (by omega)
        obtain ⟨_, h3, h4⟩ := World.cells?_some h1
        have h5 := h4 0 (by omega)
        rw [Nat.zero_mul] at h5
        have h6 : (a.add 0).add 0 = a := rfl
        rw [h6, List.getElem?_eq_getElem (by omega)] at h5
        exact cell_spot h5
      obtain ⟨b, o, s⟩ := a
      simp only at hsp
      subst hsp
      refine ⟨b, o, rfl, fun i cs hi j x hx => ?_⟩
      have hin : i < n := by
        have := (List.getElem?_eq_some_iff.1 hi).1
        simpa using this
      have e1 : cs = CS i := by
        rw [List.getElem?_map, List.getElem?_range hin] at hi
        injection hi with hi
        exact hi.symm
      subst e1
      obtain ⟨h1, h2⟩ := hCS i (by omega)
      obtain ⟨_, h3, h4⟩ := World.cells?_some h1
      have hj : j < 8 := by have := (List.getElem?_eq_some_iff.1 hx).1; omega
      have h5 := h4 j hj
      rw [add_plain, add_plain, Nat.add_assoc] at h5
      rw [h5]; exact hx
    · have hall : ∀ i, i < c → ∃ cs k, W'.cells? 0 (a.add (i * Tryz.prog.cellsOf 32)) (Tryz.prog.cellsOf 32) = some cs ∧ DataW.trod enc Tryz.prog W' 0 sp true k 32 cs = some (D i, Pl i) := fun i hi => by
        obtain ⟨h1, h2⟩ := hCS i hi
        obtain ⟨s0, A0, n0, c0, D0, m0, e0, s1, A1, n1, c1, D1, m1, e1, f0, h0, h3, _, _, _, _, hag⟩ := open_spancells h2
        obtain ⟨k, hk⟩ := hag W' hb sp (fun q hq => hsp q (List.mem_append_right _ (List.mem_flatMap.2 ⟨i, List.mem_range.2 hi, hq⟩)))
        rw [cells_span8]
        exact ⟨_, k, cells_below h1 hb (World.cells?_block h1 (by omega)), hk⟩
      cases hs : sp a.block with
      | true => exact shut_slice_whole Tryz.underlying22 (Nat.zero_le _) hl hm hs D Pl hall
      | false =>
        have hc0 : c = 0 := by
          rcases Nat.eq_zero_or_pos c with h | h
          · exact h
          · have h9 := hsp (.cell a.block (a.off + 0)) (List.mem_append_left _ (List.mem_map.2 ⟨0, List.mem_range.2 (by rw [cells_span8]; omega), rfl⟩))
            have h9 : sp a.block = true := h9
            rw [hs] at h9; cases h9
        subst hc0
        obtain rfl : n = 0 := by omega
        exact shut_slice Tryz.underlying22 (Nat.zero_le _) hl hm hs D Pl hall
end Go.Proofs.YtpgkkkodniiilaaGreatDoor
