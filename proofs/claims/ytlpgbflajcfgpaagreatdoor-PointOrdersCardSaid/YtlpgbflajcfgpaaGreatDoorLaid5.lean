/-
  What the laid sentinels give a walk.
-/
import Derived.Test.YtlpgbflajcfgpaaGreatDoorB1
import Derived.Stop.LaidTwo
import Derived.MakeChecks
namespace Go.Proofs.YtlpgbflajcfgpaaGreatDoor
open Go.ChangeShapes Go.WideShapes Go.ChangeAt Go.WideMaps Go.WideElems Go.RowKit

end Go.Proofs.YtlpgbflajcfgpaaGreatDoor
