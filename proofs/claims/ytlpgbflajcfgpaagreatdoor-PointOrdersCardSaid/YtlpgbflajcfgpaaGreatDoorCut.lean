/-
  The library's own contract of Cut of strings, laid at this program's numbers.
-/
import Derived.Shelf.Strings.Search1
import Derived.Shelf.Strings.Search2
import Derived.Test.YtlpgbflajcfgpaaGreatDoorK10
namespace Go.Proofs.YtlpgbflajcfgpaaGreatDoor
open Go.Shelf Go.RowKit Go.Lib

end Go.Proofs.YtlpgbflajcfgpaaGreatDoor
