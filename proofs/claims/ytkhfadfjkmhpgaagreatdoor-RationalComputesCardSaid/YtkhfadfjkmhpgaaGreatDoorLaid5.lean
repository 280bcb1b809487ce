/-
  What the laid sentinels give a walk.
-/
import Derived.Test.YtkhfadfjkmhpgaaGreatDoorShut
import Derived.Stop.LaidTwo
import Derived.MakeChecks
namespace Go.Proofs.YtkhfadfjkmhpgaaGreatDoor
open Go.ChangeShapes Go.WideShapes Go.ChangeAt Go.WideMaps Go.WideElems Go.RowKit

/-- The tables and the sentinels that the rows list. -/
def laid5 {H : Type} : List (String × DataW H) := [("math/bits.deBruijn32tab", Rows.laid_math_bits_deBruijn32tab), ("math/bits.deBruijn64tab", Rows.laid_math_bits_deBruijn64tab), ("internal/strconv.uint64pow10", Rows.laid_internal_strconv_uint64pow10), ("bspregion/api.ErrSyntax", Rows.laid_bspregion_api_ErrSyntax), ("bspregion/api.ErrLimit", Rows.laid_bspregion_api_ErrLimit)]
theorem door5_met (os : Os) (args : Array Value) : laidMetH Tryz.prog laid5 ((World.doorLaid Tryz.prog 400 os).forCall (fun _ _ => 0) ⟨#[], args, []⟩).memory :=
  laidMetH_of_parts3 (fuel := 8) (laidMet_of_run' 8 (by kernel_rfl) (by kernel_rfl)) (by kernel_rfl) (by kernel_rfl)
theorem Tryz.gS : Tryz.prog.globalNamed "bspregion/api.ErrSyntax" = some 0 := by kernel_rfl
theorem Tryz.gL : Tryz.prog.globalNamed "bspregion/api.ErrLimit" = some 2 := by kernel_rfl
theorem Tryz.gSType : (Tryz.prog.globals[0]?).map (·.type) = some 68 := by kernel_rfl
theorem Tryz.gLType : (Tryz.prog.globals[2]?).map (·.type) = some 68 := by kernel_rfl
theorem Tryz.cellsE : Tryz.prog.cellsOf 224 = 1 := by kernel_rfl
theorem Tryz.cellsS : Tryz.prog.cellsOf 9 = 1 := by kernel_rfl
theorem Tryz.star : "*" ++ "errors.errorString" = "*errors.errorString" := by decide
theorem Tryz.rowE (u : TypeId) (h : Tryz.prog.typeName? 3 u = some "*errors.errorString") : u = 199 :=
  typeName_ptr_named (nm := "errors.errorString") (by rw [Tryz.star]; kernel_rfl) (by kernel_rfl) (by decide) u (by rw [Tryz.star]; exact h)
theorem sents_of_laid {W : World} (h : laidMetH Tryz.prog laid5 W) : ∃ a0 a1, W.cell? ⟨0, 0, none⟩ = some (.iface 199 (.pointer (some a0))) ∧ W.cell? ⟨2, 0, none⟩ = some (.iface 199 (.pointer (some a1))) := by
  rw [MakeChecks.laidMetH_plain _ _ _ (by kernel_rfl)] at h
  have h1 : laidMet Tryz.prog [("bspregion/api.ErrSyntax", Rows.laid_bspregion_api_ErrSyntax), ("bspregion/api.ErrLimit", Rows.laid_bspregion_api_ErrLimit)] W := h.tail.tail.tail
  obtain ⟨a0, a1, s0, s1, c0, c1, t0, t1, hv0, hv1, _⟩ := laid_sentinels2 h1 Tryz.gS Tryz.gSType Tryz.gL Tryz.gLType Tryz.underlying68 Tryz.rowE Tryz.underlying199 Tryz.underlying224 rfl rfl Tryz.underlying9 Tryz.cellsE Tryz.cellsS
  exact ⟨a0, a1, by simpa using World.var?_cell Tryz.gS hv0 0, by simpa using World.var?_cell Tryz.gL hv1 0⟩
end Go.Proofs.YtkhfadfjkmhpgaaGreatDoor
