/-
  DERIVED. GIVEN WITH THE SEED: THE CARDS: each row of YtkhfadfjkmhpgaaDoorRows.lean that lists a variable, with what it lists TIED to the program's text (the seventh form; the later family's looks); each row that meets fmt, with fmt's text TOLD by the authors' own Lean function (tested against real Go, not proved from fmt's source: count such statements apart). THE CARD IS WHAT COUNTS. Prove the row's statement (the work); the ties are given (YtkhfadfjkmhpgaaDoorTie.lean); close each card by the builder's one call (the guide's Derived/Test/ToyasCard.lean, 'card_holds'). Laid BY PROGRAM, IN A SANDBOX (cutbox-door.mjs). By AI agents, Wed Nov 11 2026. No macro, syntax, notation, axiom, sorry.
-/
import Derived.Test.YtkhfadfjkmhpgaaDoorRows
import GoSem.ClaimSeven
namespace Go.Proofs.YtkhfadfjkmhpgaaDoor
namespace Rows

/-- THE TIED CARD OF 'bspregionlaw02.IntegerComputes'. -/
def integerComputesCard : Claim7 := { stood := { row := integerComputesRow, standIns := [], harness := (true, "dd324fcbb33ab33b9c367c10cf41ab62ef85fc931a05307a317cc2feab9a2d0f"), looks := false }, kinds := [], alts := [], laidByText := true, laidKinds := [.data, .data, .data], laidTests := true, laidLooks := .later }
def IntegerComputesCardSaid : Prop := Claim7.holds Tryd.pinned (.plain (OpenSpec.ofChange integerComputesSpec)) integerComputesCard

/-- THE SECOND FORM's CARD OF 'bspregionlaw02.IntegerComputes'. -/
def integerComputesUptoCard : Claim7 := { stood := { row := integerComputesUptoRow, standIns := [], harness := (true, "dd324fcbb33ab33b9c367c10cf41ab62ef85fc931a05307a317cc2feab9a2d0f"), looks := false }, kinds := [], alts := [], laidByText := true, laidKinds := [.data, .data, .data], laidTests := true, laidLooks := .later }
def IntegerComputesUptoCardSaid : Prop := Claim7.holds Tryd.pinned (.plain (OpenSpec.upto integerComputesSpec)) integerComputesUptoCard
end Rows
end Go.Proofs.YtkhfadfjkmhpgaaDoor
