/-
  Blocks of three cells, and what stays when a block is written.
-/
import Derived.Test.YtfonldogbfkpiaaGreatRatM
namespace Go.Proofs.YtfonldogbfkpiaaGreat
open Go.RowKit

section
variable {w w' : World} {g g' B : Nat} {cs : Array Value} {t : TypeId} {v u : Value} {s : Bool} {z : Int} {q : Rat} {x L : Nat}
theorem only_store3 (w : World) (g : Nat) (u0 u1 u2 : Value) : w.grownBy (((w.setCell ⟨g, 0, none⟩ u0).setCell ⟨g, 1, none⟩ u1).setCell ⟨g, 2, none⟩ u2) (some g) :=
  only_trans (only_store w g u0 u1) (only_setCell _ ⟨g, 2, none⟩ u2)
theorem Box.stored3 {a b c : Value} (h : Box w g #[a, b, c] t) (u0 u1 u2 : Value) : Box (((w.setCell ⟨g, 0, none⟩ u0).setCell ⟨g, 1, none⟩ u1).setCell ⟨g, 2, none⟩ u2) g #[u0, u1, u2] t := by
  have h1 : Box (w.setCell ⟨g, 0, none⟩ u0) g #[u0, b, c] t := by unfold Box; rw [heap_setCell_same w g 0 _ _ _ h]; simp
  have h2 : Box ((w.setCell ⟨g, 0, none⟩ u0).setCell ⟨g, 1, none⟩ u1) g #[u0, u1, c] t := by unfold Box; rw [heap_setCell_same _ g 1 _ _ _ h1]; simp
  unfold Box; rw [heap_setCell_same _ g 2 _ _ _ h2]; simp
theorem Box.stored31 {a b c : Value} (h : Box w g #[a, b, c] t) (u0 : Value) : Box (w.setCell ⟨g, 0, none⟩ u0) g #[u0, b, c] t := by
  unfold Box; rw [heap_setCell_same w g 0 _ _ _ h]; simp
theorem notInt_box3 (s : Bool) (A : Option Addr) (n c : Nat) (D : Option Addr) (m e : Nat) : (#[Value.bool s, Value.slice A n c, Value.slice D m e] : Array Value).all notInt = true := by simp [notInt]
theorem RV.kept (h : RV w v x L) (hb : Box w g cs t) (hc : cs.all notInt = true) (hg : w.grownBy w' (some g)) : RV w' v x L := by
  obtain ⟨ds, h1, h2, h3⟩ := h
  exact ⟨ds, Raw.keepBut h1 hg (Raw.apart h1 hb hc), h2, h3⟩
theorem NV.kept (h : NV w v x L) (hb : Box w g cs t) (hc : cs.all notInt = true) (hg : w.grownBy w' (some g)) : NV w' v x L := ⟨Raw.keepBut h.1 hg (Raw.apart h.1 hb hc), h.2⟩
theorem NI.kept (h : NI w s v z L) (hb : Box w g cs t) (hc : cs.all notInt = true) (hg : w.grownBy w' (some g)) : NI w' s v z L := ⟨h.1.kept hb hc hg, h.2⟩
theorem RI.kept (h : RI w s v z L) (hb : Box w g cs t) (hc : cs.all notInt = true) (hg : w.grownBy w' (some g)) : RI w' s v z L := by
  obtain ⟨x, h1, h2⟩ := h; exact ⟨x, h1.kept hb hc hg, h2⟩
theorem NQ.kept (h : NQ w s v u q L) (hb : Box w g cs t) (hc : cs.all notInt = true) (hg : w.grownBy w' (some g)) : NQ w' s v u q L := ⟨h.1.kept hb hc hg, h.2.kept hb hc hg⟩
theorem PQ.kept (h : PQ w s v u q L) (hb : Box w g cs t) (hc : cs.all notInt = true) (hg : w.grownBy w' (some g)) : PQ w' s v u q L := ⟨h.1.kept hb hc hg, h.2.kept hb hc hg⟩
theorem RQ.kept (h : RQ w s v u q L) (hb : Box w g cs t) (hc : cs.all notInt = true) (hg : w.grownBy w' (some g)) : RQ w' s v u q L := by
  obtain ⟨z, d, h1, h2, h3⟩ := h; exact ⟨z, d, h1.kept hb hc hg, h2.kept hb hc hg, h3⟩
theorem below_only {w0 : World} (h : Below B w0 w) (hg : w.grownBy w' (some g)) (hB : B ≤ g) (hs : B ≤ w.heap.size) : Below B w0 w' := h.grown hg hs (by rintro k hk; injection hk with hk; omega)
end
theorem info_rat : (Tryz.prog.info? 69).map (·.size) = some 3 := by kernel_rfl
theorem info_numq : (Tryz.prog.info? 49).map (·.size) = some 3 := by kernel_rfl
theorem ret_rat {fn : Func} {p : Tmp} (h : fn.results = #[.cell p 69]) {tmps : Array Value} {w : World} {g : Nat} {a b c : Value} {t : TypeId} (hp : tmps.getD p undef = .pointer (some ⟨g, 0, none⟩)) (hb : Box w g #[a, b, c] t) :
    (results fn tmps).run Tryz.prog w = .ok (.agg #[a, b, c]) w :=
  results_cell_row h tmps w g t #[a, b, c] (0, 0) _ hp hb Tryz.underlying69 rfl info_rat
theorem ret_numq {fn : Func} {p : Tmp} (h : fn.results = #[.cell p 49]) {tmps : Array Value} {w : World} {g : Nat} {a b c : Value} {t : TypeId} (hp : tmps.getD p undef = .pointer (some ⟨g, 0, none⟩)) (hb : Box w g #[a, b, c] t) :
    (results fn tmps).run Tryz.prog w = .ok (.agg #[a, b, c]) w :=
  results_cell_row h tmps w g t #[a, b, c] (0, 0) _ hp hb Tryz.underlying49 rfl info_numq
theorem ret_rat_b {fn : Func} {p q : Tmp} (h : fn.results = #[.cell p 69, .tmp q]) {tmps : Array Value} {w : World} {g : Nat} {a b c : Value} {t : TypeId} (hp : tmps.getD p undef = .pointer (some ⟨g, 0, none⟩)) (hb : Box w g #[a, b, c] t) :
    (results fn tmps).run Tryz.prog w = .ok (.tuple #[.agg #[a, b, c], tmps.getD q undef]) w := by
  have hp' : tmps[p]?.getD undef = .pointer (some ⟨g, 0, none⟩) := by simpa using hp
  have h1 := run_loadVar_row (P := Tryz.prog) w g t 69 #[a, b, c] (0, 0) _ hb Tryz.underlying69 rfl info_rat
  simp [results, h, hp', asAddr, h1]
theorem ret_numq_b {fn : Func} {p q : Tmp} (h : fn.results = #[.cell p 49, .tmp q]) {tmps : Array Value} {w : World} {g : Nat} {a b c : Value} {t : TypeId} (hp : tmps.getD p undef = .pointer (some ⟨g, 0, none⟩)) (hb : Box w g #[a, b, c] t) :
    (results fn tmps).run Tryz.prog w = .ok (.tuple #[.agg #[a, b, c], tmps.getD q undef]) w := by
  have hp' : tmps[p]?.getD undef = .pointer (some ⟨g, 0, none⟩) := by simpa using hp
  have h1 := run_loadVar_row (P := Tryz.prog) w g t 49 #[a, b, c] (0, 0) _ hb Tryz.underlying49 rfl info_numq
  simp [results, h, hp', asAddr, h1]
end Go.Proofs.YtfonldogbfkpiaaGreat
