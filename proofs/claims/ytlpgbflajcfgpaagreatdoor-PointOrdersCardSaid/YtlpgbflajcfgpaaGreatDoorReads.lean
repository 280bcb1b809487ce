/-
  The contracts of the reference's ReadN and Read.
-/
import Derived.Test.YtlpgbflajcfgpaaGreatDoorK10
import Derived.Test.YtlpgbflajcfgpaaGreatDoorK5
import Derived.Test.YtlpgbflajcfgpaaGreatDoorK3
import Derived.Test.YtlpgbflajcfgpaaGreatDoorB1
namespace Go.Proofs.YtlpgbflajcfgpaaGreatDoor
open Go.RowKit

section
variable {bs : List Nat} {w : World}
end
end Go.Proofs.YtlpgbflajcfgpaaGreatDoor
