/-
  Lines: blocks of six cells that are returned.
-/
import Derived.Test.YtfonldogbfkpiaaGreatPtB
namespace Go.Proofs.YtfonldogbfkpiaaGreat
open Go.RowKit

theorem boxes5 (w : World) (cs ds es fs gs : Array Value) (t u v x y : TypeId) : ∃ W, ((((w.alloc (.cells cs t)).alloc (.cells ds u)).alloc (.cells es v)).alloc (.cells fs x)).alloc (.cells gs y) = W ∧ Box W w.heap.size cs t ∧ Box W (w.heap.size + 1) ds u ∧ Box W (w.heap.size + 1 + 1) es v ∧ Box W (w.heap.size + 1 + 1 + 1) fs x ∧ Box W (w.heap.size + 1 + 1 + 1 + 1) gs y ∧ Below w.heap.size w W ∧ W.heap.size = w.heap.size + 5 := by
  obtain ⟨V, hV, h1, h2, h3, h4, h5, h6⟩ := boxes4 w cs ds es fs t u v x
  obtain ⟨W, hW, k1, k2, k3⟩ := boxes1 V gs y
  rw [h6] at k1
  exact ⟨W, by rw [hV, hW], h1.below k2, h2.below k2, h3.below k2, h4.below k2, k1, h5.trans (k2.mono h5.size), by omega⟩
theorem info_line : (Tryz.prog.info? 30).map (·.size) = some 6 := by kernel_rfl
theorem ret_line {fn : Func} {p : Tmp} (h : fn.results = #[.cell p 30]) {tmps : Array Value} {w : World} {g : Nat} {a0 a1 a2 a3 a4 a5 : Value} {t : TypeId} (hp : tmps.getD p undef = .pointer (some ⟨g, 0, none⟩)) (hb : Box w g #[a0, a1, a2, a3, a4, a5] t) :
    (results fn tmps).run Tryz.prog w = .ok (.agg #[a0, a1, a2, a3, a4, a5]) w :=
  results_cell_row h tmps w g t #[a0, a1, a2, a3, a4, a5] (0, 0) _ hp hb Tryz.underlying30 rfl info_line
theorem info_coef : (Tryz.prog.info? 58).map (·.size) = some 6 := by kernel_rfl
theorem ret_coef {fn : Func} {p : Tmp} (h : fn.results = #[.cell p 58]) {tmps : Array Value} {w : World} {g : Nat} {a0 a1 a2 a3 a4 a5 : Value} {t : TypeId} (hp : tmps.getD p undef = .pointer (some ⟨g, 0, none⟩)) (hb : Box w g #[a0, a1, a2, a3, a4, a5] t) :
    (results fn tmps).run Tryz.prog w = .ok (.agg #[a0, a1, a2, a3, a4, a5]) w :=
  results_cell_row h tmps w g t #[a0, a1, a2, a3, a4, a5] (0, 0) _ hp hb Tryz.underlying58 rfl info_coef
theorem info_coord : (Tryz.prog.info? 100).map (·.size) = some 6 := by kernel_rfl
theorem ret_coord {fn : Func} {p : Tmp} (h : fn.results = #[.cell p 100]) {tmps : Array Value} {w : World} {g : Nat} {a0 a1 a2 a3 a4 a5 : Value} {t : TypeId} (hp : tmps.getD p undef = .pointer (some ⟨g, 0, none⟩)) (hb : Box w g #[a0, a1, a2, a3, a4, a5] t) :
    (results fn tmps).run Tryz.prog w = .ok (.agg #[a0, a1, a2, a3, a4, a5]) w :=
  results_cell_row h tmps w g t #[a0, a1, a2, a3, a4, a5] (0, 0) _ hp hb Tryz.underlying100 rfl info_coord
theorem info_geol : (Tryz.prog.info? 36).map (·.size) = some 6 := by kernel_rfl
theorem ret_geol {fn : Func} {p : Tmp} (h : fn.results = #[.cell p 36]) {tmps : Array Value} {w : World} {g : Nat} {a0 a1 a2 a3 a4 a5 : Value} {t : TypeId} (hp : tmps.getD p undef = .pointer (some ⟨g, 0, none⟩)) (hb : Box w g #[a0, a1, a2, a3, a4, a5] t) :
    (results fn tmps).run Tryz.prog w = .ok (.agg #[a0, a1, a2, a3, a4, a5]) w :=
  results_cell_row h tmps w g t #[a0, a1, a2, a3, a4, a5] (0, 0) _ hp hb Tryz.underlying36 rfl info_geol
theorem ret_geol_b {fn : Func} {p q : Tmp} (h : fn.results = #[.cell p 36, .tmp q]) {tmps : Array Value} {w : World} {g : Nat} {a0 a1 a2 a3 a4 a5 : Value} {t : TypeId} (hp : tmps.getD p undef = .pointer (some ⟨g, 0, none⟩)) (hb : Box w g #[a0, a1, a2, a3, a4, a5] t) :
    (results fn tmps).run Tryz.prog w = .ok (.tuple #[.agg #[a0, a1, a2, a3, a4, a5], tmps.getD q undef]) w := by
  have hp' : tmps[p]?.getD undef = .pointer (some ⟨g, 0, none⟩) := by simpa using hp
  have h1 := run_loadVar_row (P := Tryz.prog) w g t 36 #[a0, a1, a2, a3, a4, a5] (0, 0) _ hb Tryz.underlying36 rfl info_geol
  simp [results, h, hp', asAddr, h1]
theorem info_linep : (Tryz.prog.info? 30).map (·.size) = some 6 := by kernel_rfl
theorem ret_linep_b {fn : Func} {p q : Tmp} (h : fn.results = #[.cell p 30, .tmp q]) {tmps : Array Value} {w : World} {g : Nat} {a0 a1 a2 a3 a4 a5 : Value} {t : TypeId} (hp : tmps.getD p undef = .pointer (some ⟨g, 0, none⟩)) (hb : Box w g #[a0, a1, a2, a3, a4, a5] t) :
    (results fn tmps).run Tryz.prog w = .ok (.tuple #[.agg #[a0, a1, a2, a3, a4, a5], tmps.getD q undef]) w := by
  have hp' : tmps[p]?.getD undef = .pointer (some ⟨g, 0, none⟩) := by simpa using hp
  have h1 := run_loadVar_row (P := Tryz.prog) w g t 30 #[a0, a1, a2, a3, a4, a5] (0, 0) _ hb Tryz.underlying30 rfl info_linep
  simp [results, h, hp', asAddr, h1]
theorem info_geopb : (Tryz.prog.info? 51).map (·.size) = some 6 := by kernel_rfl
theorem ret_geopb_b {fn : Func} {p q : Tmp} (h : fn.results = #[.cell p 51, .tmp q]) {tmps : Array Value} {w : World} {g : Nat} {a0 a1 a2 a3 a4 a5 : Value} {t : TypeId} (hp : tmps.getD p undef = .pointer (some ⟨g, 0, none⟩)) (hb : Box w g #[a0, a1, a2, a3, a4, a5] t) :
    (results fn tmps).run Tryz.prog w = .ok (.tuple #[.agg #[a0, a1, a2, a3, a4, a5], tmps.getD q undef]) w := by
  have hp' : tmps[p]?.getD undef = .pointer (some ⟨g, 0, none⟩) := by simpa using hp
  have h1 := run_loadVar_row (P := Tryz.prog) w g t 51 #[a0, a1, a2, a3, a4, a5] (0, 0) _ hb Tryz.underlying51 rfl info_geopb
  simp [results, h, hp', asAddr, h1]
theorem info_pointb : (Tryz.prog.info? 71).map (·.size) = some 6 := by kernel_rfl
theorem ret_pointb_b {fn : Func} {p q : Tmp} (h : fn.results = #[.cell p 71, .tmp q]) {tmps : Array Value} {w : World} {g : Nat} {a0 a1 a2 a3 a4 a5 : Value} {t : TypeId} (hp : tmps.getD p undef = .pointer (some ⟨g, 0, none⟩)) (hb : Box w g #[a0, a1, a2, a3, a4, a5] t) :
    (results fn tmps).run Tryz.prog w = .ok (.tuple #[.agg #[a0, a1, a2, a3, a4, a5], tmps.getD q undef]) w := by
  have hp' : tmps[p]?.getD undef = .pointer (some ⟨g, 0, none⟩) := by simpa using hp
  have h1 := run_loadVar_row (P := Tryz.prog) w g t 71 #[a0, a1, a2, a3, a4, a5] (0, 0) _ hb Tryz.underlying71 rfl info_pointb
  simp [results, h, hp', asAddr, h1]
end Go.Proofs.YtfonldogbfkpiaaGreat
