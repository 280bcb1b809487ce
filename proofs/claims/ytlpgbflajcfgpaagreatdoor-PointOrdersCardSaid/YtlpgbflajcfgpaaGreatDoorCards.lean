/-
  DERIVED. GIVEN WITH THE SEED: THE CARDS: each row of YtlpgbflajcfgpaaGreatDoorRows.lean that lists a variable, with what it lists TIED to the program's text (the seventh form; the later family's looks); each row that meets fmt, with fmt's text TOLD by the authors' own Lean function (tested against real Go, not proved from fmt's source: count such statements apart). THE CARD IS WHAT COUNTS. Prove the row's statement (the work); the ties are given (YtlpgbflajcfgpaaGreatDoorTie.lean); close each card by the builder's one call (the guide's Derived/Test/ToyasCard.lean, 'card_holds'). Laid BY PROGRAM, IN A SANDBOX (cutbox-door.mjs). By AI agents, Wed Nov 11 2026. No macro, syntax, notation, axiom, sorry.
-/
import Derived.Test.YtlpgbflajcfgpaaGreatDoorRows
import GoSem.ClaimSeven
namespace Go.Proofs.YtlpgbflajcfgpaaGreatDoor
namespace Rows

/-- THE TIED CARD OF 'bspregionlaw04.PointForms'. -/
def pointFormsCard : Claim7 := { stood := { row := pointFormsRow, standIns := [], harness := (true, "79b8be7b65a86935720d2461910cf465b95c5d3948fd825230ed7fbc4570ba5d"), looks := true }, kinds := [], alts := [], laidByText := true, laidKinds := [.data, .data, .data], laidTests := true, laidLooks := .later }
def PointFormsCardSaid : Prop := Claim7.holds Tryz.pinned (.plain (OpenSpec.ofChange pointFormsSpec)) pointFormsCard

/-- THE TIED CARD OF 'bspregionlaw04.PointComputes'. -/
def pointComputesCard : Claim7 := { stood := { row := pointComputesRow, standIns := [], harness := (true, "79b8be7b65a86935720d2461910cf465b95c5d3948fd825230ed7fbc4570ba5d"), looks := true }, kinds := [], alts := [], laidByText := true, laidKinds := [.data, .data, .data], laidTests := true, laidLooks := .later }
def PointComputesCardSaid : Prop := Claim7.holds Tryz.pinned (.plain (OpenSpec.ofChange pointComputesSpec)) pointComputesCard

/-- THE TIED CARD OF 'bspregionlaw04.PointOrders'. -/
def pointOrdersCard : Claim7 := { stood := { row := pointOrdersRow, standIns := [], harness := (true, "79b8be7b65a86935720d2461910cf465b95c5d3948fd825230ed7fbc4570ba5d"), looks := true }, kinds := [], alts := [], laidByText := true, laidKinds := [.data, .data, .data], laidTests := true, laidLooks := .later }
def PointOrdersCardSaid : Prop := Claim7.holds Tryz.pinned (.plain (OpenSpec.ofChange pointOrdersSpec)) pointOrdersCard

/-- THE TIED CARD OF 'bspregionlaw04.PointAngles'. -/
def pointAnglesCard : Claim7 := { stood := { row := pointAnglesRow, standIns := [], harness := (true, "79b8be7b65a86935720d2461910cf465b95c5d3948fd825230ed7fbc4570ba5d"), looks := true }, kinds := [], alts := [], laidByText := true, laidKinds := [.data, .data, .data], laidTests := true, laidLooks := .later }
def PointAnglesCardSaid : Prop := Claim7.holds Tryz.pinned (.plain (OpenSpec.ofChange pointAnglesSpec)) pointAnglesCard

/-- THE TIED CARD OF 'bspregionlaw04.PointTurns'. -/
def pointTurnsCard : Claim7 := { stood := { row := pointTurnsRow, standIns := [], harness := (true, "79b8be7b65a86935720d2461910cf465b95c5d3948fd825230ed7fbc4570ba5d"), looks := true }, kinds := [], alts := [], laidByText := true, laidKinds := [.data, .data, .data], laidTests := true, laidLooks := .later }
def PointTurnsCardSaid : Prop := Claim7.holds Tryz.pinned (.plain (OpenSpec.ofChange pointTurnsSpec)) pointTurnsCard

/-- THE TIED CARD OF 'bspregionlaw04.PointTexts'. -/
def pointTextsCard : Claim7 := { stood := { row := pointTextsRow, standIns := [], harness := (true, "79b8be7b65a86935720d2461910cf465b95c5d3948fd825230ed7fbc4570ba5d"), looks := true }, kinds := [], alts := [], laidByText := true, laidKinds := [.data, .data, .data, .sentinel, .sentinel, .sentinel], laidTests := true, laidLooks := .later }
def PointTextsCardSaid : Prop := Claim7.holds Tryz.pinned (.plain (OpenSpec.ofChange pointTextsSpec)) pointTextsCard

/-- THE SECOND FORM's CARD OF 'bspregionlaw04.PointForms'. -/
def pointFormsUptoCard : Claim7 := { stood := { row := pointFormsUptoRow, standIns := [], harness := (true, "79b8be7b65a86935720d2461910cf465b95c5d3948fd825230ed7fbc4570ba5d"), looks := true }, kinds := [], alts := [], laidByText := true, laidKinds := [.data, .data, .data], laidTests := true, laidLooks := .later }
def PointFormsUptoCardSaid : Prop := Claim7.holds Tryz.pinned (.plain (OpenSpec.upto pointFormsSpec)) pointFormsUptoCard

/-- THE SECOND FORM's CARD OF 'bspregionlaw04.PointComputes'. -/
def pointComputesUptoCard : Claim7 := { stood := { row := pointComputesUptoRow, standIns := [], harness := (true, "79b8be7b65a86935720d2461910cf465b95c5d3948fd825230ed7fbc4570ba5d"), looks := true }, kinds := [], alts := [], laidByText := true, laidKinds := [.data, .data, .data], laidTests := true, laidLooks := .later }
def PointComputesUptoCardSaid : Prop := Claim7.holds Tryz.pinned (.plain (OpenSpec.upto pointComputesSpec)) pointComputesUptoCard

/-- THE SECOND FORM's CARD OF 'bspregionlaw04.PointOrders'. -/
def pointOrdersUptoCard : Claim7 := { stood := { row := pointOrdersUptoRow, standIns := [], harness := (true, "79b8be7b65a86935720d2461910cf465b95c5d3948fd825230ed7fbc4570ba5d"), looks := true }, kinds := [], alts := [], laidByText := true, laidKinds := [.data, .data, .data], laidTests := true, laidLooks := .later }
def PointOrdersUptoCardSaid : Prop := Claim7.holds Tryz.pinned (.plain (OpenSpec.upto pointOrdersSpec)) pointOrdersUptoCard

/-- THE SECOND FORM's CARD OF 'bspregionlaw04.PointAngles'. -/
def pointAnglesUptoCard : Claim7 := { stood := { row := pointAnglesUptoRow, standIns := [], harness := (true, "79b8be7b65a86935720d2461910cf465b95c5d3948fd825230ed7fbc4570ba5d"), looks := true }, kinds := [], alts := [], laidByText := true, laidKinds := [.data, .data, .data], laidTests := true, laidLooks := .later }
def PointAnglesUptoCardSaid : Prop := Claim7.holds Tryz.pinned (.plain (OpenSpec.upto pointAnglesSpec)) pointAnglesUptoCard

/-- THE SECOND FORM's CARD OF 'bspregionlaw04.PointTurns'. -/
def pointTurnsUptoCard : Claim7 := { stood := { row := pointTurnsUptoRow, standIns := [], harness := (true, "79b8be7b65a86935720d2461910cf465b95c5d3948fd825230ed7fbc4570ba5d"), looks := true }, kinds := [], alts := [], laidByText := true, laidKinds := [.data, .data, .data], laidTests := true, laidLooks := .later }
def PointTurnsUptoCardSaid : Prop := Claim7.holds Tryz.pinned (.plain (OpenSpec.upto pointTurnsSpec)) pointTurnsUptoCard

/-- THE SECOND FORM's CARD OF 'bspregionlaw04.PointTexts'. -/
def pointTextsUptoCard : Claim7 := { stood := { row := pointTextsUptoRow, standIns := [], harness := (true, "79b8be7b65a86935720d2461910cf465b95c5d3948fd825230ed7fbc4570ba5d"), looks := true }, kinds := [], alts := [], laidByText := true, laidKinds := [.data, .data, .data, .sentinel, .sentinel, .sentinel], laidTests := true, laidLooks := .later }
def PointTextsUptoCardSaid : Prop := Claim7.holds Tryz.pinned (.plain (OpenSpec.upto pointTextsSpec)) pointTextsUptoCard
end Rows
end Go.Proofs.YtlpgbflajcfgpaaGreatDoor
