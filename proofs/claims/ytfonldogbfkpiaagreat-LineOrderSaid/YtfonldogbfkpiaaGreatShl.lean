/-
  The contract of Shl.
-/
import Derived.Test.YtfonldogbfkpiaaGreatShift2
namespace Go.Proofs.YtfonldogbfkpiaaGreat
open Go.RowKit
section
variable {A : Option Addr} {n c x L : Nat} {w : World}
end
end Go.Proofs.YtfonldogbfkpiaaGreat
