/-
  Laid7, Laid8 in one text.
-/
import Derived.Test.YtlpgbflajcfgpaaGreatDoorB1
import Derived.Test.YtlpgbflajcfgpaaGreatDoorK10
import Derived.Stop.LaidTwo
import Derived.MakeChecks
import Derived.Lib.LaidTab
import Derived.Lib.ItoaNum
import Derived.ChangeMaps5
namespace Go.Proofs.YtlpgbflajcfgpaaGreatDoor
open Go.ChangeShapes Go.WideShapes Go.ChangeAt Go.WideMaps Go.WideElems Go.RowKit

theorem Tryz.gP : Tryz.prog.globalNamed "internal/strconv.uint64pow10" = some 5 := by kernel_rfl
theorem Tryz.gPType : (Tryz.prog.globals[5]?).map (·.type) = some 224 := by kernel_rfl
theorem Tryz.arrP : Tryz.prog.underlying 224 = some (.array 20 119) := by kernel_rfl
theorem Tryz.cellsP1 : Tryz.prog.cellsOf 119 = 1 := by kernel_rfl
theorem Tryz.cellsP : Tryz.prog.cellsOf 224 = 20 := by kernel_rfl
theorem pow_data : (Rows.laid_internal_strconv_uint64pow10 : DataW Unit) = Lib.tabData .u64 Lib.pow10Tab := by kernel_rfl
end Go.Proofs.YtlpgbflajcfgpaaGreatDoor
namespace Go.Proofs.YtlpgbflajcfgpaaGreatDoor
open Go.ChangeShapes Go.WideShapes Go.ChangeAt Go.WideMaps Go.WideElems Go.RowKit

/-- The tables that the rows list. -/
def laid8 {H : Type} : List (String × DataW H) := [("math/bits.deBruijn32tab", Rows.laid_math_bits_deBruijn32tab), ("math/bits.deBruijn64tab", Rows.laid_math_bits_deBruijn64tab), ("internal/strconv.uint64pow10", Rows.laid_internal_strconv_uint64pow10)]
theorem door8_met (os : Os) (args : Array Value) : laidMetH Tryz.prog laid8 ((World.doorLaid Tryz.prog 400 os).forCall (fun _ _ => 0) ⟨#[], args, []⟩).memory :=
  laidMetH_of_parts3 (fuel := 8) (laidMet_of_run' 8 (by kernel_rfl) (by kernel_rfl)) (by kernel_rfl) (by kernel_rfl)
theorem tab8_of_laid {W : World} (h : laidMetH Tryz.prog laid8 W) : Lib.TabIs Tryz.prog W "internal/strconv.uint64pow10" .u64 Lib.pow10Tab := by
  rw [MakeChecks.laidMetH_plain _ _ _ (by kernel_rfl)] at h
  have h1 : laidMet Tryz.prog [("internal/strconv.uint64pow10", Rows.laid_internal_strconv_uint64pow10)] W := h.tail.tail
  rw [pow_data] at h1
  exact Lib.tabIs_of_head Tryz.gP Tryz.gPType Tryz.arrP Tryz.underlying119 Tryz.cellsP1 Tryz.cellsP h1
end Go.Proofs.YtlpgbflajcfgpaaGreatDoor
