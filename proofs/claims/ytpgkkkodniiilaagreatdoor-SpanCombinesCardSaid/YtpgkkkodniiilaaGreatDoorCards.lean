/-
  DERIVED. GIVEN WITH THE SEED: THE CARDS: each row of YtpgkkkodniiilaaGreatDoorRows.lean that lists a variable, with what it lists TIED to the program's text (the seventh form; the later family's looks); each row that meets fmt, with fmt's text TOLD by the authors' own Lean function (tested against real Go, not proved from fmt's source: count such statements apart). THE CARD IS WHAT COUNTS. Prove the row's statement (the work); the ties are given (YtpgkkkodniiilaaGreatDoorTie.lean); close each card by the builder's one call (the guide's Derived/Test/ToyasCard.lean, 'card_holds'). Laid BY PROGRAM, IN A SANDBOX (cutbox-door.mjs). By AI agents, Wed Nov 11 2026. No macro, syntax, notation, axiom, sorry.
-/
import Derived.Test.YtpgkkkodniiilaaGreatDoorRows
import GoSem.ClaimSeven
namespace Go.Proofs.YtpgkkkodniiilaaGreatDoor
namespace Rows

/-- THE TIED CARD OF 'bspregionlaw06.SpanValid'. -/
def spanValidCard : Claim7 := { stood := { row := spanValidRow, standIns := [], harness := (true, "c99bf73fd8a4ce0f80e7c27ff46c1014171579ce4ff0846fcd3b7696d211aae8"), looks := true }, kinds := [], alts := [], laidByText := true, laidKinds := [.sentinel], laidTests := true, laidLooks := .later }
def SpanValidCardSaid : Prop := Claim7.holds Tryz.pinned (.plain (OpenSpec.ofChange spanValidSpec)) spanValidCard

/-- THE TIED CARD OF 'bspregionlaw06.SpanCombines'. -/
def spanCombinesCard : Claim7 := { stood := { row := spanCombinesRow, standIns := [], harness := (true, "c99bf73fd8a4ce0f80e7c27ff46c1014171579ce4ff0846fcd3b7696d211aae8"), looks := true }, kinds := [], alts := [], laidByText := true, laidKinds := [.sentinel], laidTests := true, laidLooks := .later }
def SpanCombinesCardSaid : Prop := Claim7.holds Tryz.pinned (.plain (OpenSpec.ofChange spanCombinesSpec)) spanCombinesCard

/-- THE TIED CARD OF 'bspregionlaw06.SpanPoints'. -/
def spanPointsCard : Claim7 := { stood := { row := spanPointsRow, standIns := [], harness := (true, "c99bf73fd8a4ce0f80e7c27ff46c1014171579ce4ff0846fcd3b7696d211aae8"), looks := true }, kinds := [], alts := [], laidByText := true, laidKinds := [.sentinel], laidTests := true, laidLooks := .later }
def SpanPointsCardSaid : Prop := Claim7.holds Tryz.pinned (.plain (OpenSpec.ofChange spanPointsSpec)) spanPointsCard

/-- THE TIED CARD OF 'bspregionlaw06.SpanMeasures'. -/
def spanMeasuresCard : Claim7 := { stood := { row := spanMeasuresRow, standIns := [], harness := (true, "c99bf73fd8a4ce0f80e7c27ff46c1014171579ce4ff0846fcd3b7696d211aae8"), looks := true }, kinds := [], alts := [], laidByText := true, laidKinds := [.sentinel, .sentinel], laidTests := true, laidLooks := .later }
def SpanMeasuresCardSaid : Prop := Claim7.holds Tryz.pinned (.plain (OpenSpec.ofChange spanMeasuresSpec)) spanMeasuresCard

/-- THE TIED CARD OF 'bspregionlaw06.SpanAlgebra'. -/
def spanAlgebraCard : Claim7 := { stood := { row := spanAlgebraRow, standIns := [], harness := (true, "c99bf73fd8a4ce0f80e7c27ff46c1014171579ce4ff0846fcd3b7696d211aae8"), looks := true }, kinds := [], alts := [], laidByText := true, laidKinds := [.sentinel], laidTests := true, laidLooks := .later }
def SpanAlgebraCardSaid : Prop := Claim7.holds Tryz.pinned (.plain (OpenSpec.ofChange spanAlgebraSpec)) spanAlgebraCard

/-- THE TIED CARD OF 'bspregionlaw06.SpanAdds'. -/
def spanAddsCard : Claim7 := { stood := { row := spanAddsRow, standIns := [], harness := (true, "c99bf73fd8a4ce0f80e7c27ff46c1014171579ce4ff0846fcd3b7696d211aae8"), looks := true }, kinds := [], alts := [], laidByText := true, laidKinds := [.sentinel, .sentinel], laidTests := true, laidLooks := .later }
def SpanAddsCardSaid : Prop := Claim7.holds Tryz.pinned (.plain (OpenSpec.ofChange spanAddsSpec)) spanAddsCard

/-- THE SECOND FORM's CARD OF 'bspregionlaw06.SpanValid'. -/
def spanValidUptoCard : Claim7 := { stood := { row := spanValidUptoRow, standIns := [], harness := (true, "c99bf73fd8a4ce0f80e7c27ff46c1014171579ce4ff0846fcd3b7696d211aae8"), looks := true }, kinds := [], alts := [], laidByText := true, laidKinds := [.sentinel], laidTests := true, laidLooks := .later }
def SpanValidUptoCardSaid : Prop := Claim7.holds Tryz.pinned (.plain (OpenSpec.upto spanValidSpec)) spanValidUptoCard

/-- THE SECOND FORM's CARD OF 'bspregionlaw06.SpanCombines'. -/
def spanCombinesUptoCard : Claim7 := { stood := { row := spanCombinesUptoRow, standIns := [], harness := (true, "c99bf73fd8a4ce0f80e7c27ff46c1014171579ce4ff0846fcd3b7696d211aae8"), looks := true }, kinds := [], alts := [], laidByText := true, laidKinds := [.sentinel], laidTests := true, laidLooks := .later }
def SpanCombinesUptoCardSaid : Prop := Claim7.holds Tryz.pinned (.plain (OpenSpec.upto spanCombinesSpec)) spanCombinesUptoCard

/-- THE SECOND FORM's CARD OF 'bspregionlaw06.SpanPoints'. -/
def spanPointsUptoCard : Claim7 := { stood := { row := spanPointsUptoRow, standIns := [], harness := (true, "c99bf73fd8a4ce0f80e7c27ff46c1014171579ce4ff0846fcd3b7696d211aae8"), looks := true }, kinds := [], alts := [], laidByText := true, laidKinds := [.sentinel], laidTests := true, laidLooks := .later }
def SpanPointsUptoCardSaid : Prop := Claim7.holds Tryz.pinned (.plain (OpenSpec.upto spanPointsSpec)) spanPointsUptoCard

/-- THE SECOND FORM's CARD OF 'bspregionlaw06.SpanMeasures'. -/
def spanMeasuresUptoCard : Claim7 := { stood := { row := spanMeasuresUptoRow, standIns := [], harness := (true, "c99bf73fd8a4ce0f80e7c27ff46c1014171579ce4ff0846fcd3b7696d211aae8"), looks := true }, kinds := [], alts := [], laidByText := true, laidKinds := [.sentinel, .sentinel], laidTests := true, laidLooks := .later }
def SpanMeasuresUptoCardSaid : Prop := Claim7.holds Tryz.pinned (.plain (OpenSpec.upto spanMeasuresSpec)) spanMeasuresUptoCard

/-- THE SECOND FORM's CARD OF 'bspregionlaw06.SpanAlgebra'. -/
def spanAlgebraUptoCard : Claim7 := { stood := { row := spanAlgebraUptoRow, standIns := [], harness := (true, "c99bf73fd8a4ce0f80e7c27ff46c1014171579ce4ff0846fcd3b7696d211aae8"), looks := true }, kinds := [], alts := [], laidByText := true, laidKinds := [.sentinel], laidTests := true, laidLooks := .later }
def SpanAlgebraUptoCardSaid : Prop := Claim7.holds Tryz.pinned (.plain (OpenSpec.upto spanAlgebraSpec)) spanAlgebraUptoCard

/-- THE SECOND FORM's CARD OF 'bspregionlaw06.SpanAdds'. -/
def spanAddsUptoCard : Claim7 := { stood := { row := spanAddsUptoRow, standIns := [], harness := (true, "c99bf73fd8a4ce0f80e7c27ff46c1014171579ce4ff0846fcd3b7696d211aae8"), looks := true }, kinds := [], alts := [], laidByText := true, laidKinds := [.sentinel, .sentinel], laidTests := true, laidLooks := .later }
def SpanAddsUptoCardSaid : Prop := Claim7.holds Tryz.pinned (.plain (OpenSpec.upto spanAddsSpec)) spanAddsUptoCard
end Rows
end Go.Proofs.YtpgkkkodniiilaaGreatDoor
