/-
  What the laid sentinels give a walk.
-/
import Derived.Test.YtacfdcfkfjildaaDoorShut
import Derived.Stop.LaidTwo
import Derived.MakeChecks
namespace Go.Proofs.YtacfdcfkfjildaaDoor
open Go.ChangeShapes Go.WideShapes Go.ChangeAt Go.WideMaps Go.WideElems Go.RowKit

/-- The tables and the sentinels that the rows list. -/
def laid5 {H : Type} : List (String × DataW H) := [("math/bits.deBruijn32tab", Rows.laid_math_bits_deBruijn32tab), ("math/bits.deBruijn64tab", Rows.laid_math_bits_deBruijn64tab), ("internal/strconv.uint64pow10", Rows.laid_internal_strconv_uint64pow10), ("bspregion/api.ErrSyntax", Rows.laid_bspregion_api_ErrSyntax), ("bspregion/api.ErrLimit", Rows.laid_bspregion_api_ErrLimit)]
theorem door5_met (os : Os) (args : Array Value) : laidMetH Tryd.prog laid5 ((World.doorLaid Tryd.prog 400 os).forCall (fun _ _ => 0) ⟨#[], args, []⟩).memory :=
  laidMetH_of_parts3 (fuel := 8) (laidMet_of_run' 8 (by kernel_rfl) (by kernel_rfl)) (by kernel_rfl) (by kernel_rfl)
theorem Tryd.gS : Tryd.prog.globalNamed "bspregion/api.ErrSyntax" = some 0 := by kernel_rfl
theorem Tryd.gL : Tryd.prog.globalNamed "bspregion/api.ErrLimit" = some 1 := by kernel_rfl
theorem Tryd.gSType : (Tryd.prog.globals[0]?).map (·.type) = some 50 := by kernel_rfl
theorem Tryd.gLType : (Tryd.prog.globals[1]?).map (·.type) = some 50 := by kernel_rfl
theorem Tryd.cellsE : Tryd.prog.cellsOf 197 = 1 := by kernel_rfl
theorem Tryd.cellsS : Tryd.prog.cellsOf 9 = 1 := by kernel_rfl
theorem Tryd.star : "*" ++ "errors.errorString" = "*errors.errorString" := by decide
theorem Tryd.rowE (u : TypeId) (h : Tryd.prog.typeName? 3 u = some "*errors.errorString") : u = 172 :=
  typeName_ptr_named (nm := "errors.errorString") (by rw [Tryd.star]; kernel_rfl) (by kernel_rfl) (by decide) u (by rw [Tryd.star]; exact h)
theorem sents_of_laid {W : World} (h : laidMetH Tryd.prog laid5 W) : ∃ a0 a1, W.cell? ⟨0, 0, none⟩ = some (.iface 172 (.pointer (some a0))) ∧ W.cell? ⟨1, 0, none⟩ = some (.iface 172 (.pointer (some a1))) := by
  rw [MakeChecks.laidMetH_plain _ _ _ (by kernel_rfl)] at h
  have h1 : laidMet Tryd.prog [("bspregion/api.ErrSyntax", Rows.laid_bspregion_api_ErrSyntax), ("bspregion/api.ErrLimit", Rows.laid_bspregion_api_ErrLimit)] W := h.tail.tail.tail
  obtain ⟨a0, a1, s0, s1, c0, c1, t0, t1, hv0, hv1, _⟩ := laid_sentinels2 h1 Tryd.gS Tryd.gSType Tryd.gL Tryd.gLType Tryd.underlying50 Tryd.rowE Tryd.underlying172 Tryd.underlying197 rfl rfl Tryd.underlying9 Tryd.cellsE Tryd.cellsS
  exact ⟨a0, a1, by simpa using World.var?_cell Tryd.gS hv0 0, by simpa using World.var?_cell Tryd.gL hv1 0⟩
end Go.Proofs.YtacfdcfkfjildaaDoor
