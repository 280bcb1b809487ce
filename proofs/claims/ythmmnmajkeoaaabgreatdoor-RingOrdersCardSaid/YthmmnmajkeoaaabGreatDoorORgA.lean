/-
  Lists of points in memory.
-/
import Derived.Test.YthmmnmajkeoaaabGreatDoorOSS
namespace Go.Proofs.YthmmnmajkeoaaabGreatDoor
open Go.RowKit
/-- A point in memory: its cells, and its coordinates. -/
structure PP where
  s0 : Bool
  A0 : Option Addr
  n0 : Nat
  c0 : Nat
  D0 : Option Addr
  m0 : Nat
  e0 : Nat
  s1 : Bool
  A1 : Option Addr
  n1 : Nat
  c1 : Nat
  D1 : Option Addr
  m1 : Nat
  e1 : Nat
  q0 : Rat
  q1 : Rat
def PP.cells (x : PP) : List Value := [.bool x.s0, .slice x.A0 x.n0 x.c0, .slice x.D0 x.m0 x.e0, .bool x.s1, .slice x.A1 x.n1 x.c1, .slice x.D1 x.m1 x.e1]
def PP.pt (x : PP) : Rat × Rat := (x.q0, x.q1)
instance instPP : Inhabited PP := ⟨⟨false, none, 0, 0, none, 0, 0, false, none, 0, 0, none, 0, 0, 0, 0⟩⟩
/-- Its coordinates are in normal form. -/
def PP.nq (x : PP) (w : World) (L : Nat) : Prop := NQ w x.s0 (.slice x.A0 x.n0 x.c0) (.slice x.D0 x.m0 x.e0) x.q0 L ∧ NQ w x.s1 (.slice x.A1 x.n1 x.c1) (.slice x.D1 x.m1 x.e1) x.q1 L
/-- It is a point of the reference. -/
def PP.pq (x : PP) (w : World) (L : Nat) : Prop := PQ w x.s0 (.slice x.A0 x.n0 x.c0) (.slice x.D0 x.m0 x.e0) x.q0 L ∧ PQ w x.s1 (.slice x.A1 x.n1 x.c1) (.slice x.D1 x.m1 x.e1) x.q1 L
section
variable {w w' : World} {L : Nat} {zs zs' : List PP} {x : PP}
theorem firm_nq1 (x : PP) (L : Nat) : Firm fun w => x.nq w L := (firm_nq _ _ _ _ _).and (firm_nq _ _ _ _ _)
theorem firm_pq1 (x : PP) (L : Nat) : Firm fun w => x.pq w L := (firm_pq _ _ _ _ _).and (firm_pq _ _ _ _ _)
theorem firm_all {α : Type} {P : α → World → Prop} (F : ∀ a, Firm (P a)) (l : List α) : Firm fun w => ∀ a ∈ l, P a w :=
  ⟨fun h hb a ha => (F a).below (h a ha) hb, fun h hx hc hg a ha => (F a).kept (h a ha) hx hc hg⟩
def FN (w : World) (L : Nat) (zs : List PP) : Prop := ∀ z ∈ zs, z.nq w L
def FP (w : World) (L : Nat) (zs : List PP) : Prop := ∀ z ∈ zs, z.pq w L
theorem firm_fn (L : Nat) (zs : List PP) : Firm fun w => FN w L zs := firm_all (fun z => firm_nq1 z L) zs
theorem firm_fp (L : Nat) (zs : List PP) : Firm fun w => FP w L zs := firm_all (fun z => firm_pq1 z L) zs
theorem FN.below (h : FN w L zs) (hb : Below w.heap.size w w') : FN w' L zs := (firm_fn L zs).below h hb
theorem FP.below (h : FP w L zs) (hb : Below w.heap.size w w') : FP w' L zs := (firm_fp L zs).below h hb
theorem FN.own {B k : Nat} {e : TypeId} {v : Value} {css : List (List Value)} (h : FN w L zs) (hv : OwnE w B e k v css) (hg : w.grownBy w' v.ownBlock) : FN w' L zs := (firm_fn L zs).own h hv.2.2 hg
theorem FP.own {B k : Nat} {e : TypeId} {v : Value} {css : List (List Value)} (h : FP w L zs) (hv : OwnE w B e k v css) (hg : w.grownBy w' v.ownBlock) : FP w' L zs := (firm_fp L zs).own h hv.2.2 hg
theorem FN.snoc (h : FN w L zs) (hx : x.nq w L) : FN w L (zs ++ [x]) := fun z hz => by
  rcases List.mem_append.1 hz with h1 | h1
  · exact h z h1
  · rw [List.mem_singleton.1 h1]; exact hx
theorem FN.app (h : FN w L zs) (h' : FN w L zs') : FN w L (zs ++ zs') := fun z hz => (List.mem_append.1 hz).elim (h z) (h' z)
theorem FN.sub (h : FN w L zs) (hs : ∀ z ∈ zs', z ∈ zs) : FN w L zs' := fun z hz => h z (hs z hz)
def rowsP (zs : List PP) : List (List Value) := zs.map PP.cells
theorem rowsP_snoc (zs : List PP) (x : PP) : rowsP zs ++ [x.cells] = rowsP (zs ++ [x]) := by unfold rowsP; rw [List.map_append]; rfl
theorem rowsP_len (zs : List PP) : (rowsP zs).length = zs.length := List.length_map _
theorem rowsP_cells (zs : List PP) : ∀ cs ∈ rowsP zs, ∀ u ∈ cs, u.oneCell' = true ∧ notInt u = true := by
  intro cs hcs u hu
  obtain ⟨z, _, rfl⟩ := List.mem_map.1 hcs
  simp [PP.cells] at hu
  rcases hu with rfl | rfl | rfl | rfl | rfl | rfl <;> simp [notInt, Value.oneCell']
theorem pp_elem {A : Option Addr} {n cap i : Nat} (hS : ReadR w 6 (.slice A n cap) (rowsP zs)) (hx : zs[i]? = some x) : ∃ g o, A = some ⟨g, o, none⟩ ∧ CellF w ⟨g, o + i * 6, none⟩ (.bool x.s0) ∧ CellF w ⟨g, o + i * 6 + 1, none⟩ (.slice x.A0 x.n0 x.c0) ∧ CellF w ⟨g, o + i * 6 + 2, none⟩ (.slice x.D0 x.m0 x.e0) ∧ CellF w ⟨g, o + i * 6 + 3, none⟩ (.bool x.s1) ∧ CellF w ⟨g, o + i * 6 + 4, none⟩ (.slice x.A1 x.n1 x.c1) ∧ CellF w ⟨g, o + i * 6 + 5, none⟩ (.slice x.D1 x.m1 x.e1) := by
  obtain ⟨hk, A', c', e1, _, _, hr⟩ := hS
  injection e1 with e1 e2 e3
  subst e1 e2 e3
  have hcs : (rowsP zs)[i]? = some x.cells := by unfold rowsP; rw [List.getElem?_map, hx]; rfl
  obtain ⟨g, o, e4, hcell⟩ := hr (by intro h; rw [h] at hcs; cases hcs)
  have hc := fun j y hy => hcell i _ hcs j y hy
  refine ⟨g, o, e4, hc 0 _ rfl, ?_, ?_, ?_, ?_, ?_⟩ <;> show World.cell? _ _ = _ <;> rw [Nat.add_assoc]
  · exact hc 1 _ rfl
  · exact hc 2 _ rfl
  · exact hc 3 _ rfl
  · exact hc 4 _ rfl
  · exact hc 5 _ rfl
theorem pp_len {A : Option Addr} {n cap : Nat} (hS : ReadR w 6 (.slice A n cap) (rowsP zs)) : n = zs.length := by
  obtain ⟨_, A', c', e1, _⟩ := hS
  injection e1 with e1 e2 e3
  rw [e2, rowsP_len]
/-- The points of the reference that are whole numbers, one after the other. -/
theorem get_ok {i : Nat} (h : i < zs.length) : zs[i]? = some (zs.getD i default) := by
  rw [List.getElem?_eq_getElem h, List.getD_eq_getElem?_getD, List.getElem?_eq_getElem h]; rfl
theorem get_mem {i : Nat} (h : i < zs.length) : zs.getD i default ∈ zs := List.mem_of_getElem? (get_ok h)
/-- What edges visits. -/
def edgeP (zs : List PP) (i : Nat) : PP × PP := (zs.getD i default, zs.getD ((i + 1) % zs.length) default)
/-- What corners visits: the vertex before, the vertex, the one after. -/
def cornP (zs : List PP) (i : Nat) : PP × PP × PP := (zs.getD ((i + zs.length - 1) % zs.length) default, zs.getD i default, zs.getD ((i + 1) % zs.length) default)
def upto {α : Type} (f : Nat → α) (k : Nat) : List α := (List.range k).map f
theorem upto_succ {α : Type} (f : Nat → α) (k : Nat) : upto f (k + 1) = upto f k ++ [f k] := by simp [upto, List.range_succ]
theorem elem_pt : ElemT 28 65 6 := elemT Tryz.underlying28 (by decide) (by kernel_rfl)
theorem elem_ring : ElemT 30 65 6 := elemT Tryz.underlying30 (by decide) (by kernel_rfl)
theorem elem_gp : ElemT 25 51 6 := elemT Tryz.underlying25 (by decide) (by kernel_rfl)
end
end Go.Proofs.YthmmnmajkeoaaabGreatDoor
