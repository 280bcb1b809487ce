/-
  Blocks of six cells (a point), and what stays when they are written.
-/
import Derived.Test.YtfonldogbfkpiaaGreatRatB
namespace Go.Proofs.YtfonldogbfkpiaaGreat
open Go.RowKit

section
variable {w w' : World} {g g' B : Nat} {cs : Array Value} {t : TypeId}
theorem only_store6 (w : World) (g : Nat) (u0 u1 u2 u3 u4 u5 : Value) : w.grownBy ((((((w.setCell ⟨g, 0, none⟩ u0).setCell ⟨g, 1, none⟩ u1).setCell ⟨g, 2, none⟩ u2).setCell ⟨g, 3, none⟩ u3).setCell ⟨g, 4, none⟩ u4).setCell ⟨g, 5, none⟩ u5) (some g) :=
  only_trans (only_trans (only_trans (only_store3 w g u0 u1 u2) (only_setCell _ ⟨g, 3, none⟩ u3)) (only_setCell _ ⟨g, 4, none⟩ u4)) (only_setCell _ ⟨g, 5, none⟩ u5)
theorem only_store3hi (w : World) (g : Nat) (u3 u4 u5 : Value) : w.grownBy (((w.setCell ⟨g, 3, none⟩ u3).setCell ⟨g, 4, none⟩ u4).setCell ⟨g, 5, none⟩ u5) (some g) :=
  only_trans (only_trans (only_setCell w ⟨g, 3, none⟩ u3) (only_setCell _ ⟨g, 4, none⟩ u4)) (only_setCell _ ⟨g, 5, none⟩ u5)
theorem Box.put1 {a0 a1 a2 a3 a4 a5 : Value} (h : Box w g #[a0, a1, a2, a3, a4, a5] t) (u : Value) : Box (w.setCell ⟨g, 1, none⟩ u) g #[a0, u, a2, a3, a4, a5] t := by
  unfold Box; rw [heap_setCell_same w g 1 _ _ _ h]; simp
theorem Box.put2 {a0 a1 a2 a3 a4 a5 : Value} (h : Box w g #[a0, a1, a2, a3, a4, a5] t) (u : Value) : Box (w.setCell ⟨g, 2, none⟩ u) g #[a0, a1, u, a3, a4, a5] t := by
  unfold Box; rw [heap_setCell_same w g 2 _ _ _ h]; simp
theorem Box.stored3hi {a0 a1 a2 a3 a4 a5 : Value} (h : Box w g #[a0, a1, a2, a3, a4, a5] t) (u3 u4 u5 : Value) : Box (((w.setCell ⟨g, 3, none⟩ u3).setCell ⟨g, 4, none⟩ u4).setCell ⟨g, 5, none⟩ u5) g #[a0, a1, a2, u3, u4, u5] t := by
  have h1 : Box (w.setCell ⟨g, 3, none⟩ u3) g #[a0, a1, a2, u3, a4, a5] t := by unfold Box; rw [heap_setCell_same w g 3 _ _ _ h]; simp
  have h2 : Box ((w.setCell ⟨g, 3, none⟩ u3).setCell ⟨g, 4, none⟩ u4) g #[a0, a1, a2, u3, u4, a5] t := by unfold Box; rw [heap_setCell_same _ g 4 _ _ _ h1]; simp
  unfold Box; rw [heap_setCell_same _ g 5 _ _ _ h2]; simp
theorem Box.stored6 {a0 a1 a2 a3 a4 a5 : Value} (h : Box w g #[a0, a1, a2, a3, a4, a5] t) (u0 u1 u2 u3 u4 u5 : Value) : Box ((((((w.setCell ⟨g, 0, none⟩ u0).setCell ⟨g, 1, none⟩ u1).setCell ⟨g, 2, none⟩ u2).setCell ⟨g, 3, none⟩ u3).setCell ⟨g, 4, none⟩ u4).setCell ⟨g, 5, none⟩ u5) g #[u0, u1, u2, u3, u4, u5] t := by
  have h0 : Box (w.setCell ⟨g, 0, none⟩ u0) g #[u0, a1, a2, a3, a4, a5] t := by unfold Box; rw [heap_setCell_same w g 0 _ _ _ h]; simp
  exact ((h0.put1 u1).put2 u2).stored3hi u3 u4 u5
theorem notInt_box6 (s : Bool) (A : Option Addr) (n c : Nat) (D : Option Addr) (m e : Nat) (s' : Bool) (A' : Option Addr) (n' c' : Nat) (D' : Option Addr) (m' e' : Nat) : (#[Value.bool s, Value.slice A n c, Value.slice D m e, Value.bool s', Value.slice A' n' c', Value.slice D' m' e'] : Array Value).all notInt = true := by simp [notInt]
end
theorem info_point : (Tryz.prog.info? 71).map (·.size) = some 6 := by kernel_rfl
theorem info_geop : (Tryz.prog.info? 51).map (·.size) = some 6 := by kernel_rfl
theorem ret_point {fn : Func} {p : Tmp} (h : fn.results = #[.cell p 71]) {tmps : Array Value} {w : World} {g : Nat} {a0 a1 a2 a3 a4 a5 : Value} {t : TypeId} (hp : tmps.getD p undef = .pointer (some ⟨g, 0, none⟩)) (hb : Box w g #[a0, a1, a2, a3, a4, a5] t) :
    (results fn tmps).run Tryz.prog w = .ok (.agg #[a0, a1, a2, a3, a4, a5]) w :=
  results_cell_row h tmps w g t #[a0, a1, a2, a3, a4, a5] (0, 0) _ hp hb Tryz.underlying71 rfl info_point
theorem ret_geop {fn : Func} {p : Tmp} (h : fn.results = #[.cell p 51]) {tmps : Array Value} {w : World} {g : Nat} {a0 a1 a2 a3 a4 a5 : Value} {t : TypeId} (hp : tmps.getD p undef = .pointer (some ⟨g, 0, none⟩)) (hb : Box w g #[a0, a1, a2, a3, a4, a5] t) :
    (results fn tmps).run Tryz.prog w = .ok (.agg #[a0, a1, a2, a3, a4, a5]) w :=
  results_cell_row h tmps w g t #[a0, a1, a2, a3, a4, a5] (0, 0) _ hp hb Tryz.underlying51 rfl info_geop
theorem ret_point_e {fn : Func} {p q : Tmp} (h : fn.results = #[.cell p 71, .tmp q]) {tmps : Array Value} {w : World} {g : Nat} {a0 a1 a2 a3 a4 a5 : Value} {t : TypeId} (hp : tmps.getD p undef = .pointer (some ⟨g, 0, none⟩)) (hb : Box w g #[a0, a1, a2, a3, a4, a5] t) :
    (results fn tmps).run Tryz.prog w = .ok (.tuple #[.agg #[a0, a1, a2, a3, a4, a5], tmps.getD q undef]) w := by
  have hp' : tmps[p]?.getD undef = .pointer (some ⟨g, 0, none⟩) := by simpa using hp
  have h1 := run_loadVar_row (P := Tryz.prog) w g t 71 #[a0, a1, a2, a3, a4, a5] (0, 0) _ hb Tryz.underlying71 rfl info_point
  simp [results, h, hp', asAddr, h1]
end Go.Proofs.YtfonldogbfkpiaaGreat
