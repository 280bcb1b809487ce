/-
  Blocks that hold a struct: a boxed parameter, or the place of a result.
-/
import Derived.Test.YthmmnmajkeoaaabGreatDoorOKB
import Derived.Handy
import Derived.Deep.RegionHeld3
namespace Go.Proofs.YthmmnmajkeoaaabGreatDoor
open Go.RowKit

/-- Block g holds the cells cs. -/
def Box (w : World) (g : Nat) (cs : Array Value) (t : TypeId) : Prop := w.heap[g]? = some (.cells cs t (0, 0))
section
variable {w w' : World} {g B : Nat} {cs ds es fs : Array Value} {t u v x : TypeId}
theorem Box.lt (h : Box w g cs t) : g < w.heap.size := by
  rcases Nat.lt_or_ge g w.heap.size with h1 | h1
  · exact h1
  · unfold Box at h; rw [Array.getElem?_eq_none h1] at h; cases h
theorem Box.keep (h : Box w g cs t) (hb : Below B w w') (hg : g < B) : Box w' g cs t := (hb.block g hg).trans h
theorem Box.below (h : Box w g cs t) (hb : Below w.heap.size w w') : Box w' g cs t := h.keep hb h.lt
theorem Box.cell (h : Box w g cs t) (j : Nat) (y : Value) (hy : cs[j]? = some y) : w.cell? ⟨g, j, none⟩ = some y := (cell_of_row w g j _ _ _ h).trans hy
theorem Box.frozen (h : Box w g cs t) (j : Nat) : w.frozen? ⟨g, j, none⟩ = false := frozen_of_row w g j _ _ h
theorem below_drawn {w w' : World} (h : Below w.drew.heap.size w.drew w') : Below w.heap.size w w' := (below_drewN (Below.refl _ w) 1).trans h
theorem boxes1 (w : World) (cs : Array Value) (t : TypeId) : ∃ W, w.alloc (.cells cs t) = W ∧ Box W w.heap.size cs t ∧ Below w.heap.size w W ∧ W.heap.size = w.heap.size + 1 :=
  ⟨_, rfl, heap_alloc_new w _, below_alloc w _, by simp⟩
theorem boxes2 (w : World) (cs ds : Array Value) (t u : TypeId) : ∃ W, (w.alloc (.cells cs t)).alloc (.cells ds u) = W ∧ Box W w.heap.size cs t ∧ Box W (w.heap.size + 1) ds u ∧ Below w.heap.size w W ∧ W.heap.size = w.heap.size + 2 := by
  obtain ⟨V, hV, h1, h2, h3⟩ := boxes1 w cs t
  obtain ⟨W, hW, k1, k2, k3⟩ := boxes1 V ds u
  rw [h3] at k1
  exact ⟨W, by rw [hV, hW], h1.below k2, k1, h2.trans (k2.mono h2.size), by omega⟩
theorem boxes3 (w : World) (cs ds es : Array Value) (t u v : TypeId) : ∃ W, ((w.alloc (.cells cs t)).alloc (.cells ds u)).alloc (.cells es v) = W ∧ Box W w.heap.size cs t ∧ Box W (w.heap.size + 1) ds u ∧ Box W (w.heap.size + 1 + 1) es v ∧ Below w.heap.size w W ∧ W.heap.size = w.heap.size + 3 := by
  obtain ⟨V, hV, h1, h2, h3, h4⟩ := boxes2 w cs ds t u
  obtain ⟨W, hW, k1, k2, k3⟩ := boxes1 V es v
  rw [h4] at k1
  exact ⟨W, by rw [hV, hW], h1.below k2, h2.below k2, k1, h3.trans (k2.mono h3.size), by omega⟩
theorem boxes4 (w : World) (cs ds es fs : Array Value) (t u v x : TypeId) : ∃ W, (((w.alloc (.cells cs t)).alloc (.cells ds u)).alloc (.cells es v)).alloc (.cells fs x) = W ∧ Box W w.heap.size cs t ∧ Box W (w.heap.size + 1) ds u ∧ Box W (w.heap.size + 1 + 1) es v ∧ Box W (w.heap.size + 1 + 1 + 1) fs x ∧ Below w.heap.size w W ∧ W.heap.size = w.heap.size + 4 := by
  obtain ⟨V, hV, h1, h2, h3, h4, h5⟩ := boxes3 w cs ds es t u v
  obtain ⟨W, hW, k1, k2, k3⟩ := boxes1 V fs x
  rw [h5] at k1
  exact ⟨W, by rw [hV, hW], h1.below k2, h2.below k2, h3.below k2, k1, h4.trans (k2.mono h4.size), by omega⟩
/-- A cell that is no digit. -/
def notInt : Value → Bool
  | .int .u32 _ => false
  | _ => true
theorem notInt_box (s : Bool) (A : Option Addr) (n c : Nat) : (#[Value.bool s, Value.slice A n c] : Array Value).all notInt = true := by simp [notInt]
theorem Raw.apart {w : World} {v : Value} {ds : List Nat} {g : Nat} {cs : Array Value} {t : TypeId} (h : Raw w v ds) (hb : Box w g cs t) (hc : cs.all notInt = true) : 0 < ds.length → ∀ A n c, v = .slice A n c → ∀ ad, A = some ad → ad.block ≠ g := by
  rintro hl A n c rfl ad rfl rfl
  obtain ⟨ad', e1, _, e3⟩ := h.at_ hl
  injection e1 with e1
  subst e1
  unfold World.cell? at e3
  rw [addr_add_block, hb] at e3
  simp only at e3
  split at e3
  · cases e3
  · have h1 := Array.mem_of_getElem? e3
    have h2 := Array.all_eq_true_iff_forall_mem.1 hc _ h1
    cases h2
theorem only_setCell (w : World) (p : Addr) (u : Value) : w.grownBy (w.setCell p u) (some p.block) :=
  ⟨rfl, rfl, rfl, by simp [World.setCell], fun i _ hne => Below.heap_setCell w p u i (by rintro rfl; exact hne rfl)⟩
theorem only_store (w : World) (g : Nat) (u0 u1 : Value) : w.grownBy ((w.setCell ⟨g, 0, none⟩ u0).setCell ⟨g, 1, none⟩ u1) (some g) := only_trans (only_setCell w ⟨g, 0, none⟩ u0) (only_setCell _ ⟨g, 1, none⟩ u1)
theorem Raw.stored {w : World} {v : Value} {ds : List Nat} {g : Nat} {cs : Array Value} {t : TypeId} (h : Raw w v ds) (hb : Box w g cs t) (hc : cs.all notInt = true) (u0 u1 : Value) : Raw ((w.setCell ⟨g, 0, none⟩ u0).setCell ⟨g, 1, none⟩ u1) v ds :=
  h.keepBut (only_store w g u0 u1) (h.apart hb hc)
theorem NV.stored {w : World} {v : Value} {n L : Nat} {g : Nat} {cs : Array Value} {t : TypeId} (h : NV w v n L) (hb : Box w g cs t) (hc : cs.all notInt = true) (u0 u1 : Value) : NV ((w.setCell ⟨g, 0, none⟩ u0).setCell ⟨g, 1, none⟩ u1) v n L :=
  ⟨Raw.stored h.1 hb hc u0 u1, h.2⟩
theorem Box.far {w : World} {g g' : Nat} {cs : Array Value} {t : TypeId} (h : Box w g cs t) (hne : g ≠ g') (u0 u1 : Value) : Box ((w.setCell ⟨g', 0, none⟩ u0).setCell ⟨g', 1, none⟩ u1) g cs t :=
  ((only_store w g' u0 u1).block g h.lt (by intro e; injection e with e; exact hne e)).trans h
theorem Box.stored {w : World} {g : Nat} {a b : Value} {t : TypeId} (h : Box w g #[a, b] t) (u0 u1 : Value) : Box ((w.setCell ⟨g, 0, none⟩ u0).setCell ⟨g, 1, none⟩ u1) g #[u0, u1] t := by
  have h1 : Box (w.setCell ⟨g, 0, none⟩ u0) g #[u0, b] t := by unfold Box; rw [heap_setCell_same w g 0 _ _ _ h]; simp
  unfold Box; rw [heap_setCell_same _ g 1 _ _ _ h1]; simp
theorem info_int : (Tryz.prog.info? 61).map (·.size) = some 2 := by kernel_rfl
/-- A result that lies in a block. -/
theorem ret_int {fn : Func} {p : Tmp} (h : fn.results = #[.cell p 61]) {tmps : Array Value} {w : World} {g : Nat} {a b : Value} {t : TypeId} (hp : tmps.getD p undef = .pointer (some ⟨g, 0, none⟩)) (hb : Box w g #[a, b] t) :
    (results fn tmps).run Tryz.prog w = .ok (.agg #[a, b]) w :=
  results_cell_row h tmps w g t #[a, b] (0, 0) _ hp hb Tryz.underlying61 rfl info_int
theorem below_stored {w0 w : World} {B : Nat} (h : Below B w0 w) {g : Nat} (hg : B ≤ g) (u0 u1 : Value) : Below B w0 ((w.setCell ⟨g, 0, none⟩ u0).setCell ⟨g, 1, none⟩ u1) :=
  (h.setCell (p := ⟨g, 0, none⟩) hg u0).setCell (p := ⟨g, 1, none⟩) hg u1
end
end Go.Proofs.YthmmnmajkeoaaabGreatDoor
