/-
  The laid sentinel ErrInvalid.
-/
import Derived.Test.YtpgkkkodniiilaaGreatDoorWLS
import Derived.Stop.LaidErr
namespace Go.Proofs.YtpgkkkodniiilaaGreatDoor
open Go.ChangeShapes Go.WideShapes Go.ChangeAt Go.WideMaps Go.WideElems Go.RowKit
def laidA {H : Type} : List (String × DataW H) := [("bspregion/api.ErrInvalid", Rows.laid_bspregion_api_ErrInvalid)]
theorem doorA_met (os : Os) (args : Array Value) : laidMetH Tryz.prog laidA ((World.doorLaid Tryz.prog 400 os).forCall (fun _ _ => 0) ⟨#[], args, []⟩).memory :=
  laidMetH_of_parts3 (fuel := 8) (laidMet_of_run' 8 (by kernel_rfl) (by kernel_rfl)) (by kernel_rfl) (by kernel_rfl)
theorem sentI_of_laid {W : World} (h : laidMetH Tryz.prog laidA W) : ∃ a1 : Addr, W.cell? ⟨0, 0, none⟩ = some (.iface 230 (.pointer (some a1))) := by
  rw [MakeChecks.laidMetH_plain _ _ _ (by kernel_rfl)] at h
  have h1 : laidMet Tryz.prog [("bspregion/api.ErrInvalid", Rows.laid_bspregion_api_ErrInvalid)] W := h
  obtain ⟨a1, _, hv1, _⟩ := laid_sentinel h1 Tryz.gI Tryz.gIType Tryz.underlying47 Tryz.rowE6 Tryz.underlying230 Tryz.underlying255 rfl rfl Tryz.underlying9 Tryz.cellsE6 Tryz.cellsS6
  exact ⟨a1, by simpa using World.var?_cell Tryz.gI hv1 0⟩
end Go.Proofs.YtpgkkkodniiilaaGreatDoor
