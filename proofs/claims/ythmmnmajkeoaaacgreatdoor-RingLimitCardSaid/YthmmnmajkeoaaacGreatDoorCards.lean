/-
  DERIVED. GIVEN WITH THE SEED: THE CARDS: each row of YthmmnmajkeoaaacGreatDoorRows.lean that lists a variable, with what it lists TIED to the program's text (the seventh form; the later family's looks); each row that meets fmt, with fmt's text TOLD by the authors' own Lean function (tested against real Go, not proved from fmt's source: count such statements apart). THE CARD IS WHAT COUNTS. Prove the row's statement (the work); the ties are given (YthmmnmajkeoaaacGreatDoorTie.lean); close each card by the builder's one call (the guide's Derived/Test/ToyasCard.lean, 'card_holds'). Laid BY PROGRAM, IN A SANDBOX (cutbox-door.mjs). By AI agents, Wed Nov 11 2026. No macro, syntax, notation, axiom, sorry.
-/
import Derived.Test.YthmmnmajkeoaaacGreatDoorRows
import GoSem.ClaimSeven
namespace Go.Proofs.YthmmnmajkeoaaacGreatDoor
namespace Rows

/-- THE TIED CARD OF 'bspregionlaw09.RingLimit'. -/
def ringLimitCard : Claim7 := { stood := { row := ringLimitRow, standIns := [], harness := (true, "5a90a8f1b4c8b8396379eb20466dec3e01f1c66c0c61f26dc5f48baf0fa26f34"), looks := true }, kinds := [], alts := [], laidByText := true, laidKinds := [.sentinel, .sentinel, .sentinel], laidTests := true, laidLooks := .later }
def RingLimitCardSaid : Prop := Claim7.holds Tryz.pinned (.plain (OpenSpec.ofChange ringLimitSpec)) ringLimitCard

/-- THE SECOND FORM's CARD OF 'bspregionlaw09.RingLimit'. -/
def ringLimitUptoCard : Claim7 := { stood := { row := ringLimitUptoRow, standIns := [], harness := (true, "5a90a8f1b4c8b8396379eb20466dec3e01f1c66c0c61f26dc5f48baf0fa26f34"), looks := true }, kinds := [], alts := [], laidByText := true, laidKinds := [.sentinel, .sentinel, .sentinel], laidTests := true, laidLooks := .later }
def RingLimitUptoCardSaid : Prop := Claim7.holds Tryz.pinned (.plain (OpenSpec.upto ringLimitSpec)) ringLimitUptoCard
end Rows
end Go.Proofs.YthmmnmajkeoaaacGreatDoor
