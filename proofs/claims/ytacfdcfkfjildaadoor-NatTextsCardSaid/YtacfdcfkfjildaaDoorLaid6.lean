/-
  What the laid table of powers gives; a string as a list of bytes.
-/
import Derived.Test.YtacfdcfkfjildaaDoorLaid5
import Derived.Test.YtacfdcfkfjildaaDoorOnly
import Derived.Lib.LaidTab
import Derived.Lib.ItoaNum
import Derived.ChangeMaps5
namespace Go.Proofs.YtacfdcfkfjildaaDoor
open Go.ChangeShapes Go.WideShapes Go.ChangeAt Go.WideMaps Go.WideElems Go.RowKit

theorem Tryd.gP : Tryd.prog.globalNamed "internal/strconv.uint64pow10" = some 3 := by kernel_rfl
theorem Tryd.gPType : (Tryd.prog.globals[3]?).map (·.type) = some 168 := by kernel_rfl
theorem Tryd.arrP : Tryd.prog.underlying 168 = some (.array 20 61) := by kernel_rfl
theorem Tryd.cellsP1 : Tryd.prog.cellsOf 61 = 1 := by kernel_rfl
theorem Tryd.cellsP : Tryd.prog.cellsOf 168 = 20 := by kernel_rfl
theorem pow_data : (Rows.laid_internal_strconv_uint64pow10 : DataW Unit) = Lib.tabData .u64 Lib.pow10Tab := by kernel_rfl
theorem tab_of_laid {W : World} (h : laidMetH Tryd.prog laid5 W) : Lib.TabIs Tryd.prog W "internal/strconv.uint64pow10" .u64 Lib.pow10Tab := by
  rw [MakeChecks.laidMetH_plain _ _ _ (by kernel_rfl)] at h
  have h1 : laidMet Tryd.prog [("internal/strconv.uint64pow10", Rows.laid_internal_strconv_uint64pow10), ("bspregion/api.ErrSyntax", Rows.laid_bspregion_api_ErrSyntax), ("bspregion/api.ErrLimit", Rows.laid_bspregion_api_ErrLimit)] W := h.tail.tail
  rw [pow_data] at h1
  exact Lib.tabIs_of_head Tryd.gP Tryd.gPType Tryd.arrP Tryd.underlying61 Tryd.cellsP1 Tryd.cellsP h1
theorem str_bytes (s : ByteArray) : ∃ bs, OkB bs ∧ s = strB bs ∧ bs.length = s.size := by
  refine ⟨s.data.toList.map UInt8.toNat, ?_, ?_, by rw [List.length_map, Array.length_toList]; rfl⟩
  · intro b hb
    obtain ⟨u, _, rfl⟩ := List.mem_map.1 hb
    exact u.toNat_lt
  · apply ByteArray.ext
    apply Array.toList_inj.1
    have h : UInt8.ofNat ∘ UInt8.toNat = id := by funext u; simp
    simp [strB, h]
end Go.Proofs.YtacfdcfkfjildaaDoor
