/-
  The laid sentinels of the laws of spans.
-/
import Derived.Test.YtfdlkbbepkghmaaGreatDoorVK1
import Derived.Test.YtfdlkbbepkghmaaGreatDoorVK2
import Derived.Test.YtfdlkbbepkghmaaGreatDoorVK3
import Derived.Test.YtfdlkbbepkghmaaGreatDoorVShutC
import Derived.Stop.LaidTwo
import Derived.MakeChecks
import Derived.LaidSub
import Derived.ChangeMaps5
namespace Go.Proofs.YtfdlkbbepkghmaaGreatDoor
open Go.ChangeShapes Go.WideShapes Go.ChangeAt Go.WideMaps Go.WideElems Go.RowKit

/-- The sentinels that the rows list. -/
def laidA {H : Type} : List (String × DataW H) := [("bspregion/api.ErrInvalid", Rows.laid_bspregion_api_ErrInvalid)]
theorem doorA_met (os : Os) (args : Array Value) : laidMetH Tryz.prog laidA ((World.doorLaid Tryz.prog 400 os).forCall (fun _ _ => 0) ⟨#[], args, []⟩).memory :=
  laidMetH_of_parts3 (fuel := 8) (laidMet_of_run' 8 (by kernel_rfl) (by kernel_rfl)) (by kernel_rfl) (by kernel_rfl)
end Go.Proofs.YtfdlkbbepkghmaaGreatDoor
