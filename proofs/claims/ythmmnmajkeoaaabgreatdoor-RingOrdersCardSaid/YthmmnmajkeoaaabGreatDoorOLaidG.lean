/-
  The laid sentinels of RingLimit; an argument that is a byte.
-/
import Derived.Test.YthmmnmajkeoaaabGreatDoorOGF
import Derived.Test.YthmmnmajkeoaaabGreatDoorOShutC
import Derived.Stop.LaidTwo
import Derived.MakeChecks
import Derived.LaidSub
import Derived.ChangeMaps5
namespace Go.Proofs.YthmmnmajkeoaaabGreatDoor
open Go.ChangeShapes Go.WideShapes Go.ChangeAt Go.WideMaps Go.WideElems Go.RowKit
/-- The sentinels that the row lists. -/
def laidG {H : Type} : List (String × DataW H) := [("bspregion/api.ErrInvalid", Rows.laid_bspregion_api_ErrInvalid), ("bspregion/api.ErrRing", Rows.laid_bspregion_api_ErrRing), ("bspregion/api.ErrLimit", Rows.laid_bspregion_api_ErrLimit)]
theorem doorG_met (os : Os) (args : Array Value) : laidMetH Tryz.prog laidG ((World.doorLaid Tryz.prog 400 os).forCall (fun _ _ => 0) ⟨#[], args, []⟩).memory :=
  laidMetH_of_parts3 (fuel := 8) (laidMet_of_run' 8 (by kernel_rfl) (by kernel_rfl)) (by kernel_rfl) (by kernel_rfl)
theorem Tryz.gR : Tryz.prog.globalNamed "bspregion/api.ErrRing" = some 0 := by kernel_rfl
theorem Tryz.gL : Tryz.prog.globalNamed "bspregion/api.ErrLimit" = some 1 := by kernel_rfl
theorem Tryz.gRType : (Tryz.prog.globals[0]?).map (·.type) = some 32 := by kernel_rfl
theorem Tryz.gLType : (Tryz.prog.globals[1]?).map (·.type) = some 32 := by kernel_rfl
theorem Tryz.cellsE9 : Tryz.prog.cellsOf 211 = 1 := by kernel_rfl
theorem Tryz.cellsS9 : Tryz.prog.cellsOf 9 = 1 := by kernel_rfl
theorem star9 : "*" ++ "errors.errorString" = "*errors.errorString" := by decide
theorem Tryz.rowE9 (u : TypeId) (h : Tryz.prog.typeName? 3 u = some "*errors.errorString") : u = 186 :=
  typeName_ptr_named (nm := "errors.errorString") (by rw [star9]; kernel_rfl) (by kernel_rfl) (by decide) u (by rw [star9]; exact h)
theorem sentG_of_laid {W : World} (h : laidMetH Tryz.prog laidG W) : ∃ a1 a2 : Addr, SentV W 1 a1 ∧ SentV W 0 a2 := by
  rw [MakeChecks.laidMetH_plain _ _ _ (by kernel_rfl)] at h
  have h0 : laidMet Tryz.prog [("bspregion/api.ErrInvalid", Rows.laid_bspregion_api_ErrInvalid), ("bspregion/api.ErrRing", Rows.laid_bspregion_api_ErrRing), ("bspregion/api.ErrLimit", Rows.laid_bspregion_api_ErrLimit)] W := h
  have h1 : laidMet Tryz.prog [("bspregion/api.ErrRing", Rows.laid_bspregion_api_ErrRing), ("bspregion/api.ErrLimit", Rows.laid_bspregion_api_ErrLimit)] W := h0.tail
  obtain ⟨a0, a1, _, _, _, _, _, _, hv0, hv1, _⟩ := laid_sentinels2 h1 Tryz.gR Tryz.gRType Tryz.gL Tryz.gLType Tryz.underlying32 Tryz.rowE9 Tryz.underlying186 Tryz.underlying211 rfl rfl Tryz.underlying9 Tryz.cellsE9 Tryz.cellsS9
  exact ⟨a1, a0, by simpa [SentV] using World.var?_cell Tryz.gL hv1 0, by simpa [SentV] using World.var?_cell Tryz.gR hv0 0⟩
end Go.Proofs.YthmmnmajkeoaaabGreatDoor
