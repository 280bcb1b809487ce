/-
  What the laid sentinels give a walk.
-/
import Derived.Test.YtancgkmkbgkncaaGreatDoorB1
import Derived.Stop.LaidTwo
import Derived.MakeChecks
namespace Go.Proofs.YtancgkmkbgkncaaGreatDoor
open Go.ChangeShapes Go.WideShapes Go.ChangeAt Go.WideMaps Go.WideElems Go.RowKit

theorem Tryz.gS : Tryz.prog.globalNamed "bspregion/api.ErrSyntax" = some 0 := by kernel_rfl
theorem Tryz.gSType : (Tryz.prog.globals[0]?).map (·.type) = some 36 := by kernel_rfl
theorem Tryz.cellsE : Tryz.prog.cellsOf 220 = 1 := by kernel_rfl
theorem Tryz.cellsS : Tryz.prog.cellsOf 9 = 1 := by kernel_rfl
theorem Tryz.star : "*" ++ "errors.errorString" = "*errors.errorString" := by decide
theorem Tryz.rowE (u : TypeId) (h : Tryz.prog.typeName? 3 u = some "*errors.errorString") : u = 195 :=
  typeName_ptr_named (nm := "errors.errorString") (by rw [Tryz.star]; kernel_rfl) (by kernel_rfl) (by decide) u (by rw [Tryz.star]; exact h)
end Go.Proofs.YtancgkmkbgkncaaGreatDoor
