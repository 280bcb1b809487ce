/-
  The contracts of package rational: quotients, the middle, rounding.
-/
import Derived.Test.YtfdlkbbepkghmaaGreatDoorVBox
import Derived.Test.YtfdlkbbepkghmaaGreatDoorVDivLong
import Derived.Test.YtfdlkbbepkghmaaGreatDoorVK1
import Derived.Test.YtfdlkbbepkghmaaGreatDoorVK2
import Derived.Test.YtfdlkbbepkghmaaGreatDoorVK3
import Derived.Test.YtfdlkbbepkghmaaGreatDoorVK4
import Derived.Test.YtfdlkbbepkghmaaGreatDoorVK5
import Derived.Test.YtfdlkbbepkghmaaGreatDoorVK6
import Derived.Test.YtfdlkbbepkghmaaGreatDoorVK7
import Derived.Test.YtfdlkbbepkghmaaGreatDoorVK8
import Derived.Test.YtfdlkbbepkghmaaGreatDoorVK9
import Derived.Test.YtfdlkbbepkghmaaGreatDoorVOrd
import Derived.Test.YtfdlkbbepkghmaaGreatDoorVR1
import Derived.Test.YtfdlkbbepkghmaaGreatDoorVRA
import Derived.Test.YtfdlkbbepkghmaaGreatDoorVS1
import Derived.Test.YtfdlkbbepkghmaaGreatDoorVShelf
namespace Go.Proofs.YtfdlkbbepkghmaaGreatDoor
open Go.RowKit

section
variable    {z z' z0 z1 z2 : Int} {q q' q0 q1 q2 : Rat} {L L0 L1 L2 x x0 x1 y : Nat} {k : Int} {w : World}
theorem div_mk {z0 z1 : Int} {d0 d1 : Nat} : mkRat z0 d0 / mkRat z1 d1 = Rat.divInt (z0 * (d1 : Int)) (z1 * (d0 : Int)) := by
  rw [Rat.div_def, ← Rat.divInt_ofNat z1 d1, Rat.inv_divInt, ← Rat.divInt_ofNat z0 d0, Rat.divInt_mul_divInt, Int.mul_comm (d0 : Int) z1]
end
end Go.Proofs.YtfdlkbbepkghmaaGreatDoor
