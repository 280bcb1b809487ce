/-
  Laid7, Laid9 in one text.
-/
import Derived.Test.YtancgkmkbgkncaaGreatDoorB1
import Derived.Test.YtancgkmkbgkncaaGreatDoorK10
import Derived.Stop.LaidTwo
import Derived.MakeChecks
import Derived.Lib.LaidTab
import Derived.Lib.ItoaNum
import Derived.ChangeMaps5
import Derived.LaidSub
namespace Go.Proofs.YtancgkmkbgkncaaGreatDoor
open Go.ChangeShapes Go.WideShapes Go.ChangeAt Go.WideMaps Go.WideElems Go.RowKit

/-- The tables and the sentinels that the rows list. -/
def laid7 {H : Type} : List (String × DataW H) := [("math/bits.deBruijn32tab", Rows.laid_math_bits_deBruijn32tab), ("math/bits.deBruijn64tab", Rows.laid_math_bits_deBruijn64tab), ("internal/strconv.uint64pow10", Rows.laid_internal_strconv_uint64pow10), ("bspregion/api.ErrSyntax", Rows.laid_bspregion_api_ErrSyntax), ("bspregion/api.ErrLimit", Rows.laid_bspregion_api_ErrLimit), ("bspregion/api.ErrRange", Rows.laid_bspregion_api_ErrRange)]
theorem door7_met (os : Os) (args : Array Value) : laidMetH Tryz.prog laid7 ((World.doorLaid Tryz.prog 400 os).forCall (fun _ _ => 0) ⟨#[], args, []⟩).memory :=
  laidMetH_of_parts3 (fuel := 8) (laidMet_of_run' 8 (by kernel_rfl) (by kernel_rfl)) (by kernel_rfl) (by kernel_rfl)
theorem Tryz.gS : Tryz.prog.globalNamed "bspregion/api.ErrSyntax" = some 0 := by kernel_rfl
theorem Tryz.gR : Tryz.prog.globalNamed "bspregion/api.ErrRange" = some 1 := by kernel_rfl
theorem Tryz.gSType : (Tryz.prog.globals[0]?).map (·.type) = some 36 := by kernel_rfl
theorem Tryz.gRType : (Tryz.prog.globals[1]?).map (·.type) = some 36 := by kernel_rfl
theorem Tryz.cellsE : Tryz.prog.cellsOf 220 = 1 := by kernel_rfl
theorem Tryz.cellsS : Tryz.prog.cellsOf 9 = 1 := by kernel_rfl
theorem Tryz.star : "*" ++ "errors.errorString" = "*errors.errorString" := by decide
theorem Tryz.rowE (u : TypeId) (h : Tryz.prog.typeName? 3 u = some "*errors.errorString") : u = 195 :=
  typeName_ptr_named (nm := "errors.errorString") (by rw [Tryz.star]; kernel_rfl) (by kernel_rfl) (by decide) u (by rw [Tryz.star]; exact h)
theorem Tryz.gP : Tryz.prog.globalNamed "internal/strconv.uint64pow10" = some 5 := by kernel_rfl
theorem Tryz.gPType : (Tryz.prog.globals[5]?).map (·.type) = some 188 := by kernel_rfl
theorem Tryz.arrP : Tryz.prog.underlying 188 = some (.array 20 92) := by kernel_rfl
theorem Tryz.cellsP1 : Tryz.prog.cellsOf 92 = 1 := by kernel_rfl
theorem Tryz.cellsP : Tryz.prog.cellsOf 188 = 20 := by kernel_rfl
theorem pow_data : (Rows.laid_internal_strconv_uint64pow10 : DataW Unit) = Lib.tabData .u64 Lib.pow10Tab := by kernel_rfl
theorem tab_of_laid {W : World} (h : laidMetH Tryz.prog laid7 W) : Lib.TabIs Tryz.prog W "internal/strconv.uint64pow10" .u64 Lib.pow10Tab := by
  rw [MakeChecks.laidMetH_plain _ _ _ (by kernel_rfl)] at h
  have h1 : laidMet Tryz.prog [("internal/strconv.uint64pow10", Rows.laid_internal_strconv_uint64pow10), ("bspregion/api.ErrSyntax", Rows.laid_bspregion_api_ErrSyntax), ("bspregion/api.ErrLimit", Rows.laid_bspregion_api_ErrLimit), ("bspregion/api.ErrRange", Rows.laid_bspregion_api_ErrRange)] W := h.tail.tail
  rw [pow_data] at h1
  exact Lib.tabIs_of_head Tryz.gP Tryz.gPType Tryz.arrP Tryz.underlying92 Tryz.cellsP1 Tryz.cellsP h1
theorem str_bytes (s : ByteArray) : ∃ bs, OkB bs ∧ s = strB bs ∧ bs.length = s.size := by
  refine ⟨s.data.toList.map UInt8.toNat, ?_, ?_, by rw [List.length_map, Array.length_toList]; rfl⟩
  · intro b hb
    obtain ⟨u, _, rfl⟩ := List.mem_map.1 hb
    exact u.toNat_lt
  · apply ByteArray.ext
    apply Array.toList_inj.1
    have h : UInt8.ofNat ∘ UInt8.toNat = id := by funext u; simp
    simp [strB, h]
end Go.Proofs.YtancgkmkbgkncaaGreatDoor
namespace Go.Proofs.YtancgkmkbgkncaaGreatDoor
open Go.ChangeShapes Go.WideShapes Go.ChangeAt Go.WideMaps Go.WideElems Go.RowKit

theorem sents9_of_laid {W : World} (h : laidMetH Tryz.prog laid7 W) : ∃ a0 a2 c0 c1 t0 t1, W.cell? ⟨0, 0, none⟩ = some (.iface 195 (.pointer (some a0))) ∧ W.cell? ⟨1, 0, none⟩ = some (.iface 195 (.pointer (some a2))) ∧ a2 ≠ a0 ∧ W.heap[a0.block]? = some (.cells c0 t0 (0, 0)) ∧ W.heap[a2.block]? = some (.cells c1 t1 (0, 0)) := by
  rw [MakeChecks.laidMetH_plain _ _ _ (by kernel_rfl)] at h
  have h1 : laidMet Tryz.prog [("bspregion/api.ErrSyntax", Rows.laid_bspregion_api_ErrSyntax), ("bspregion/api.ErrLimit", Rows.laid_bspregion_api_ErrLimit), ("bspregion/api.ErrRange", Rows.laid_bspregion_api_ErrRange)] W := h.tail.tail.tail
  have h2 := h1.filter (fun p => p.1 != "bspregion/api.ErrLimit")
  have h3 : laidMet Tryz.prog [("bspregion/api.ErrSyntax", Rows.laid_bspregion_api_ErrSyntax), ("bspregion/api.ErrRange", Rows.laid_bspregion_api_ErrRange)] W := by
    rw [show ([("bspregion/api.ErrSyntax", Rows.laid_bspregion_api_ErrSyntax), ("bspregion/api.ErrLimit", Rows.laid_bspregion_api_ErrLimit), ("bspregion/api.ErrRange", Rows.laid_bspregion_api_ErrRange)] : List (String × DataW Unit)).filter (fun p => p.1 != "bspregion/api.ErrLimit") = [("bspregion/api.ErrSyntax", Rows.laid_bspregion_api_ErrSyntax), ("bspregion/api.ErrRange", Rows.laid_bspregion_api_ErrRange)] by kernel_rfl] at h2
    exact h2
  obtain ⟨a0, a2, _, _, c0, c1, t0, t1, hv0, hv2, _, _, _, _, _, _, hne, hb0, hb1⟩ := laid_sentinels2 h3 Tryz.gS Tryz.gSType Tryz.gR Tryz.gRType Tryz.underlying36 Tryz.rowE Tryz.underlying195 Tryz.underlying220 rfl rfl Tryz.underlying9 Tryz.cellsE Tryz.cellsS
  exact ⟨a0, a2, c0, c1, t0, t1, by simpa using World.var?_cell Tryz.gS hv0 0, by simpa using World.var?_cell Tryz.gR hv2 0, fun h => hne h.symm, hb0, hb1⟩
end Go.Proofs.YtancgkmkbgkncaaGreatDoor
