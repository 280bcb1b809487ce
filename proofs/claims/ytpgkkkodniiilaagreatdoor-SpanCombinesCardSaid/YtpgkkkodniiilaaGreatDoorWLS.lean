/-
  LaidS, LaidS2 in one text.
-/
import Derived.Test.YtpgkkkodniiilaaGreatDoorWShutC
import Derived.Stop.LaidTwo
import Derived.MakeChecks
import Derived.LaidSub
import Derived.ChangeMaps5
namespace Go.Proofs.YtpgkkkodniiilaaGreatDoor
open Go.ChangeShapes Go.WideShapes Go.ChangeAt Go.WideMaps Go.WideElems Go.RowKit
def laidB {H : Type} : List (String × DataW H) := [("bspregion/api.ErrInvalid", Rows.laid_bspregion_api_ErrInvalid), ("bspregion/api.ErrUnbounded", Rows.laid_bspregion_api_ErrUnbounded)]
theorem doorB_met (os : Os) (args : Array Value) : laidMetH Tryz.prog laidB ((World.doorLaid Tryz.prog 400 os).forCall (fun _ _ => 0) ⟨#[], args, []⟩).memory :=
  laidMetH_of_parts3 (fuel := 8) (laidMet_of_run' 8 (by kernel_rfl) (by kernel_rfl)) (by kernel_rfl) (by kernel_rfl)
end Go.Proofs.YtpgkkkodniiilaaGreatDoor
namespace Go.Proofs.YtpgkkkodniiilaaGreatDoor
open Go.ChangeShapes Go.WideShapes Go.ChangeAt Go.WideMaps Go.WideElems Go.RowKit
theorem Tryz.gI : Tryz.prog.globalNamed "bspregion/api.ErrInvalid" = some 0 := by kernel_rfl
theorem Tryz.gU : Tryz.prog.globalNamed "bspregion/api.ErrUnbounded" = some 1 := by kernel_rfl
theorem Tryz.gIType : (Tryz.prog.globals[0]?).map (·.type) = some 47 := by kernel_rfl
theorem Tryz.gUType : (Tryz.prog.globals[1]?).map (·.type) = some 47 := by kernel_rfl
theorem Tryz.cellsE6 : Tryz.prog.cellsOf 255 = 1 := by kernel_rfl
theorem Tryz.cellsS6 : Tryz.prog.cellsOf 9 = 1 := by kernel_rfl
theorem star6 : "*" ++ "errors.errorString" = "*errors.errorString" := by decide
theorem Tryz.rowE6 (u : TypeId) (h : Tryz.prog.typeName? 3 u = some "*errors.errorString") : u = 230 :=
  typeName_ptr_named (nm := "errors.errorString") (by rw [star6]; kernel_rfl) (by kernel_rfl) (by decide) u (by rw [star6]; exact h)
theorem sentU_of_laid {W : World} (h : laidMetH Tryz.prog laidB W) : ∃ a1 : Addr, W.cell? ⟨1, 0, none⟩ = some (.iface 230 (.pointer (some a1))) := by
  rw [MakeChecks.laidMetH_plain _ _ _ (by kernel_rfl)] at h
  have h1 : laidMet Tryz.prog [("bspregion/api.ErrInvalid", Rows.laid_bspregion_api_ErrInvalid), ("bspregion/api.ErrUnbounded", Rows.laid_bspregion_api_ErrUnbounded)] W := h
  obtain ⟨_, a1, _, _, _, _, _, _, _, hv1, _⟩ := laid_sentinels2 h1 Tryz.gI Tryz.gIType Tryz.gU Tryz.gUType Tryz.underlying47 Tryz.rowE6 Tryz.underlying230 Tryz.underlying255 rfl rfl Tryz.underlying9 Tryz.cellsE6 Tryz.cellsS6
  exact ⟨a1, by simpa using World.var?_cell Tryz.gU hv1 0⟩
end Go.Proofs.YtpgkkkodniiilaaGreatDoor
