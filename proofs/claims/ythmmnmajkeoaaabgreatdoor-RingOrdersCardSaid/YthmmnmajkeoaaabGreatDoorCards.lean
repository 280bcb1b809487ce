/-
  DERIVED. GIVEN WITH THE SEED: THE CARDS: each row of YthmmnmajkeoaaabGreatDoorRows.lean that lists a variable, with what it lists TIED to the program's text (the seventh form; the later family's looks); each row that meets fmt, with fmt's text TOLD by the authors' own Lean function (tested against real Go, not proved from fmt's source: count such statements apart). THE CARD IS WHAT COUNTS. Prove the row's statement (the work); the ties are given (YthmmnmajkeoaaabGreatDoorTie.lean); close each card by the builder's one call (the guide's Derived/Test/ToyasCard.lean, 'card_holds'). Laid BY PROGRAM, IN A SANDBOX (cutbox-door.mjs). By AI agents, Wed Nov 11 2026. No macro, syntax, notation, axiom, sorry.
-/
import Derived.Test.YthmmnmajkeoaaabGreatDoorRows
import GoSem.ClaimSeven
namespace Go.Proofs.YthmmnmajkeoaaabGreatDoor
namespace Rows

/-- THE TIED CARD OF 'bspregionlaw09.RingOrders'. -/
def ringOrdersCard : Claim7 := { stood := { row := ringOrdersRow, standIns := [], harness := (true, "7ff0ea9d8afed441945cb1a5f47242703f356fee7dd9c6cd4221a14cee719ace"), looks := true }, kinds := [], alts := [], laidByText := true, laidKinds := [.sentinel, .sentinel, .sentinel], laidTests := true, laidLooks := .later }
def RingOrdersCardSaid : Prop := Claim7.holds Tryz.pinned (.plain (OpenSpec.ofChange ringOrdersSpec)) ringOrdersCard

/-- THE SECOND FORM's CARD OF 'bspregionlaw09.RingOrders'. -/
def ringOrdersUptoCard : Claim7 := { stood := { row := ringOrdersUptoRow, standIns := [], harness := (true, "7ff0ea9d8afed441945cb1a5f47242703f356fee7dd9c6cd4221a14cee719ace"), looks := true }, kinds := [], alts := [], laidByText := true, laidKinds := [.sentinel, .sentinel, .sentinel], laidTests := true, laidLooks := .later }
def RingOrdersUptoCardSaid : Prop := Claim7.holds Tryz.pinned (.plain (OpenSpec.upto ringOrdersSpec)) ringOrdersUptoCard
end Rows
end Go.Proofs.YthmmnmajkeoaaabGreatDoor
