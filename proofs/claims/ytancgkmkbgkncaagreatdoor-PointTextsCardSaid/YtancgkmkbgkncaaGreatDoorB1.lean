/-
  Shut, Box in one text.
-/
import Derived.Test.YtancgkmkbgkncaaGreatDoorRows
import Derived.Test.YtancgkmkbgkncaaGreatDoorCards
import Derived.Test.YtancgkmkbgkncaaGreatDoorTie
import Derived.Test.YtancgkmkbgkncaaGreatDoorK3
import Derived.ProofKit
import Derived.LaidMore
import Derived.OpenShut
import Derived.Stop.Joined
import Derived.ChangeSlices
import Derived.ChangeSame
import Derived.SevenTiedAt
import Derived.Handy
import Derived.Deep.RegionHeld3
namespace Go.Proofs.YtancgkmkbgkncaaGreatDoor
open Go.ChangeShapes Go.WideShapes Go.ChangeAt Go.WideMaps Go.WideElems Go.RowKit

theorem own : ownKnob Tryz.prog.godebug = none := by kernel_rfl

section
variable {H : Type} {enc : TypeId × Value → H} {P : Program}
/-- The end of a row: old memory stands, the arguments read as they did. -/
theorem post_made {f : Func} {s : ChangeSpec} {apart fresh handsOn : Bool} {W W' : World} {args : Array Value} {v : Value} {ds gs : List (DataW H)} {before pa pv : List MemPlace}
    (hW : DataW.Whole enc P f.params.toList s.vars apart W args.toList ds gs before)
    (hres : ∀ (b : Nat) (sp : Nat → Bool) (hd : Bool), DataW.TrodAll enc P W' b sp hd f.resultTypes.toList (v.resultList f.resultTypes.size) (s.fn H (ds ++ gs)).results [])
    (hargs : ∀ sp : Nat → Bool, (∀ p ∈ before, sp p.block = true) → DataW.TrodAll enc P W' 0 sp true f.params.toList args.toList (s.fn H (ds ++ gs)).args pa)
    (hvars : ∀ sp : Nat → Bool, (∀ p ∈ before, sp p.block = true) → DataW.TrodVars enc P W' sp s.vars (s.fn H (ds ++ gs)).vars pv)
    (hps : before = pa ++ pv) (hb : Below W.heap.size W W') : s.post enc P f apart fresh handsOn false W args v W' := by
  have hold : ∀ p ∈ before, (fun b => decide (b < W.heap.size)) p.block = true := fun p hp => by simpa using hW.lt p hp
  refine ⟨ds, gs, before, [], pa, pv, hW, hres _ _ _, hargs _ hold, hvars _ hold, World.keptBut_mono (fun p hp => ⟨hp, ?_⟩) (hb.frame (· ∈ before)), fun h => by cases h⟩
  rw [hps, List.mem_append] at hp
  exact Or.inr hp
end

/-- A slice of one-cell integers, shut in a later world. -/
theorem shut_row {H : Type} {enc : TypeId × Value → H} {t e : TypeId} {k : IntKind} {W W' : World} {a : Addr} {len cap : Nat} {zs : List Int} (ht : Tryz.prog.underlying t = some (.slice e)) (he : Tryz.prog.underlying e = some (.int k)) (hc : Tryz.prog.cellsOf e = 1)
    (hl : len ≤ cap) (hm : cap ≤ maxLen) (hz : zs.length = cap) (hcell : ∀ i, i < zs.length → W.cell? (a.add i) = some (.int k (zs.getD i 0))) (hw : ∀ n ∈ zs, (Lit.int k n).wf = true) (hb : Below W.heap.size W W')
    (sp : Nat → Bool) (hsp : ∀ p ∈ MemPlace.row a zs.length, sp p.block = true) :
    DataW.Trod enc Tryz.prog W' 0 sp true t (Value.slice (some a) len cap) (.slice (lits k (zs.take len)) (lits k (zs.drop len))) (MemPlace.row a zs.length) := by
  have hcell' : ∀ i, i < zs.length → W'.cell? (a.add i) = some (.int k (zs.getD i 0)) := fun i hi => (hb.cell (block_lt_of_cell (hcell i hi))).trans (hcell i hi)
  by_cases hz0 : zs.length = 0
  · have hc0 : cap = 0 := by omega
    have hl0 : len = 0 := by omega
    subst hc0; subst hl0
    have t0 := shut_ints (enc := enc) (w := W') (base := 0) (spare := sp) (held := true) (a := a) (len := 0) (cap := 0) (zs := zs) 0 ht he hc (Nat.zero_le _) (Nat.le_refl _) hm (by simp [hz0]) hcell' hw
    exact ⟨2, by simpa [Value.cells] using t0⟩
  · have hspb : sp a.block = true := hsp (.cell a.block a.off) (MemPlace.mem_row.2 ⟨0, by omega, by simp⟩)
    have t0 := shut_ints (enc := enc) (w := W') (base := 0) (spare := sp) (held := true) (a := a) (len := len) (cap := cap) (zs := zs) 0 ht he hc (Nat.zero_le _) hl hm (by simp [hspb, hz]) hcell' hw
    exact ⟨2, by simpa [Value.cells] using t0⟩

/-- A parameter that is a slice of one-cell integers: what is there, and that it reads so behind the call. -/
theorem open_row {H : Type} {enc : TypeId × Value → H} {t e : TypeId} {k : IntKind} {W : World} {A : Option Addr} {n c : Nat} {d : DataW H} {p : List MemPlace} (ht : Tryz.prog.underlying t = some (.slice e)) (he : Tryz.prog.underlying e = some (.int k)) (hc : Tryz.prog.cellsOf e = 1)
    (h0 : DataW.Trod enc Tryz.prog W 0 (fun _ => true) true t (.slice A n c) d p) :
    (n ≤ c ∧ n ≤ 9223372036854775807 ∧ ∀ j, j < n → ∃ ad z, A = some ad ∧ ad.block < W.heap.size ∧ W.cell? (ad.add j) = some (.int k z) ∧ (Lit.int k z).wf = true) ∧
    ∀ W', Below W.heap.size W W' → ∀ sp : Nat → Bool, (∀ q ∈ p, sp q.block = true) → DataW.Trod enc Tryz.prog W' 0 sp true t (.slice A n c) d p := by
  obtain ⟨fuel, hf⟩ := h0
  rcases open_ints ht he hc hf with ⟨hcs, hx⟩ | ⟨a, len', cap', zs, hcs, _, hl, hm, hz, hx, hcell, hwz⟩
  · simp [Value.cells] at hcs
    obtain ⟨rfl, rfl, rfl⟩ := hcs
    simp only [Prod.mk.injEq] at hx
    obtain ⟨rfl, rfl⟩ := hx
    exact ⟨⟨Nat.le_refl _, by omega, fun j hj => by omega⟩, fun W' _ sp _ => shut_slice_nil ht⟩
  · simp [Value.cells] at hcs
    obtain ⟨rfl, rfl, rfl⟩ := hcs
    simp only [Prod.mk.injEq] at hx
    obtain ⟨rfl, rfl⟩ := hx
    simp only [if_true] at hz
    refine ⟨⟨hl, by unfold maxLen at hm; omega, fun j hj => ⟨a, zs.getD j 0, rfl, ?_, hcell j (by omega), ?_⟩⟩, fun W' hb sp hsp => shut_row ht he hc hl hm hz hcell hwz hb sp hsp⟩
    · have := block_lt_of_cell (hcell j (by omega))
      rwa [addr_add_block] at this
    · refine hwz _ ?_
      rw [List.getD_eq_getElem?_getD, List.getElem?_eq_getElem (by omega : j < zs.length)]
      exact List.getElem_mem _

theorem Tryz.cells_int : Tryz.prog.cellsOf 3 = 1 := by kernel_rfl
end Go.Proofs.YtancgkmkbgkncaaGreatDoor
namespace Go.Proofs.YtancgkmkbgkncaaGreatDoor
open Go.RowKit

/-- Block g holds the cells cs. -/
def Box (w : World) (g : Nat) (cs : Array Value) (t : TypeId) : Prop := w.heap[g]? = some (.cells cs t (0, 0))
section
variable {w w' : World} {g B : Nat} {cs ds es fs : Array Value} {t u v x : TypeId}
theorem Box.lt (h : Box w g cs t) : g < w.heap.size := by
  rcases Nat.lt_or_ge g w.heap.size with h1 | h1
  · exact h1
  · unfold Box at h; rw [Array.getElem?_eq_none h1] at h; cases h
theorem Box.keep (h : Box w g cs t) (hb : Below B w w') (hg : g < B) : Box w' g cs t := (hb.block g hg).trans h
theorem Box.below (h : Box w g cs t) (hb : Below w.heap.size w w') : Box w' g cs t := h.keep hb h.lt
theorem Box.cell (h : Box w g cs t) (j : Nat) (y : Value) (hy : cs[j]? = some y) : w.cell? ⟨g, j, none⟩ = some y := (cell_of_row w g j _ _ _ h).trans hy
theorem Box.frozen (h : Box w g cs t) (j : Nat) : w.frozen? ⟨g, j, none⟩ = false := frozen_of_row w g j _ _ h
theorem Box.drewN (h : Box w g cs t) (k : Nat) : Box (w.drewN k) g cs t := h
theorem below_drawn {w w' : World} (h : Below w.drew.heap.size w.drew w') : Below w.heap.size w w' := (below_drewN (Below.refl _ w) 1).trans h
theorem boxes1 (w : World) (cs : Array Value) (t : TypeId) : ∃ W, w.alloc (.cells cs t) = W ∧ Box W w.heap.size cs t ∧ Below w.heap.size w W ∧ W.heap.size = w.heap.size + 1 :=
  ⟨_, rfl, heap_alloc_new w _, below_alloc w _, by simp⟩
theorem boxes2 (w : World) (cs ds : Array Value) (t u : TypeId) : ∃ W, (w.alloc (.cells cs t)).alloc (.cells ds u) = W ∧ Box W w.heap.size cs t ∧ Box W (w.heap.size + 1) ds u ∧ Below w.heap.size w W ∧ W.heap.size = w.heap.size + 2 := by
  obtain ⟨V, hV, h1, h2, h3⟩ := boxes1 w cs t
  obtain ⟨W, hW, k1, k2, k3⟩ := boxes1 V ds u
  rw [h3] at k1
  exact ⟨W, by rw [hV, hW], h1.below k2, k1, h2.trans (k2.mono h2.size), by omega⟩
theorem boxes3 (w : World) (cs ds es : Array Value) (t u v : TypeId) : ∃ W, ((w.alloc (.cells cs t)).alloc (.cells ds u)).alloc (.cells es v) = W ∧ Box W w.heap.size cs t ∧ Box W (w.heap.size + 1) ds u ∧ Box W (w.heap.size + 1 + 1) es v ∧ Below w.heap.size w W ∧ W.heap.size = w.heap.size + 3 := by
  obtain ⟨V, hV, h1, h2, h3, h4⟩ := boxes2 w cs ds t u
  obtain ⟨W, hW, k1, k2, k3⟩ := boxes1 V es v
  rw [h4] at k1
  exact ⟨W, by rw [hV, hW], h1.below k2, h2.below k2, k1, h3.trans (k2.mono h3.size), by omega⟩
/-- A cell that is no digit. -/
def notInt : Value → Bool
  | .int .u32 _ => false
  | _ => true
theorem notInt_box (s : Bool) (A : Option Addr) (n c : Nat) : (#[Value.bool s, Value.slice A n c] : Array Value).all notInt = true := by simp [notInt]
theorem Raw.apart {w : World} {v : Value} {ds : List Nat} {g : Nat} {cs : Array Value} {t : TypeId} (h : Raw w v ds) (hb : Box w g cs t) (hc : cs.all notInt = true) : 0 < ds.length → ∀ A n c, v = .slice A n c → ∀ ad, A = some ad → ad.block ≠ g := by
  rintro hl A n c rfl ad rfl rfl
  obtain ⟨ad', e1, _, e3⟩ := h.at_ hl
  injection e1 with e1
  subst e1
  unfold World.cell? at e3
  rw [addr_add_block, hb] at e3
  simp only at e3
  split at e3
  · cases e3
  · have h1 := Array.mem_of_getElem? e3
    have h2 := Array.all_eq_true_iff_forall_mem.1 hc _ h1
    cases h2
theorem only_setCell (w : World) (p : Addr) (u : Value) : w.grownBy (w.setCell p u) (some p.block) :=
  ⟨rfl, rfl, rfl, by simp [World.setCell], fun i _ hne => Below.heap_setCell w p u i (by rintro rfl; exact hne rfl)⟩
theorem only_store (w : World) (g : Nat) (u0 u1 : Value) : w.grownBy ((w.setCell ⟨g, 0, none⟩ u0).setCell ⟨g, 1, none⟩ u1) (some g) := only_trans (only_setCell w ⟨g, 0, none⟩ u0) (only_setCell _ ⟨g, 1, none⟩ u1)
theorem Raw.stored {w : World} {v : Value} {ds : List Nat} {g : Nat} {cs : Array Value} {t : TypeId} (h : Raw w v ds) (hb : Box w g cs t) (hc : cs.all notInt = true) (u0 u1 : Value) : Raw ((w.setCell ⟨g, 0, none⟩ u0).setCell ⟨g, 1, none⟩ u1) v ds :=
  h.keepBut (only_store w g u0 u1) (h.apart hb hc)
theorem NV.stored {w : World} {v : Value} {n L : Nat} {g : Nat} {cs : Array Value} {t : TypeId} (h : NV w v n L) (hb : Box w g cs t) (hc : cs.all notInt = true) (u0 u1 : Value) : NV ((w.setCell ⟨g, 0, none⟩ u0).setCell ⟨g, 1, none⟩ u1) v n L :=
  ⟨Raw.stored h.1 hb hc u0 u1, h.2⟩
theorem Box.far {w : World} {g g' : Nat} {cs : Array Value} {t : TypeId} (h : Box w g cs t) (hne : g ≠ g') (u0 u1 : Value) : Box ((w.setCell ⟨g', 0, none⟩ u0).setCell ⟨g', 1, none⟩ u1) g cs t :=
  ((only_store w g' u0 u1).block g h.lt (by intro e; injection e with e; exact hne e)).trans h
theorem Box.stored {w : World} {g : Nat} {a b : Value} {t : TypeId} (h : Box w g #[a, b] t) (u0 u1 : Value) : Box ((w.setCell ⟨g, 0, none⟩ u0).setCell ⟨g, 1, none⟩ u1) g #[u0, u1] t := by
  have h1 : Box (w.setCell ⟨g, 0, none⟩ u0) g #[u0, b] t := by unfold Box; rw [heap_setCell_same w g 0 _ _ _ h]; simp
  unfold Box; rw [heap_setCell_same _ g 1 _ _ _ h1]; simp
theorem info_int : (Tryz.prog.info? 27).map (·.size) = some 2 := by kernel_rfl
/-- A result that lies in a block. -/
theorem ret_int {fn : Func} {p : Tmp} (h : fn.results = #[.cell p 27]) {tmps : Array Value} {w : World} {g : Nat} {a b : Value} {t : TypeId} (hp : tmps.getD p undef = .pointer (some ⟨g, 0, none⟩)) (hb : Box w g #[a, b] t) :
    (results fn tmps).run Tryz.prog w = .ok (.agg #[a, b]) w :=
  results_cell_row h tmps w g t #[a, b] (0, 0) _ hp hb Tryz.underlying27 rfl info_int
theorem below_stored {w0 w : World} {B : Nat} (h : Below B w0 w) {g : Nat} (hg : B ≤ g) (u0 u1 : Value) : Below B w0 ((w.setCell ⟨g, 0, none⟩ u0).setCell ⟨g, 1, none⟩ u1) :=
  (h.setCell (p := ⟨g, 0, none⟩) hg u0).setCell (p := ⟨g, 1, none⟩) hg u1
end
end Go.Proofs.YtancgkmkbgkncaaGreatDoor
