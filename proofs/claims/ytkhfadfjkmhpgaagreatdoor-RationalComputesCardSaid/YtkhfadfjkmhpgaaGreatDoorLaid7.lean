/-
  What the laid tables and the three laid sentinels give a walk.
-/
import Derived.Test.YtkhfadfjkmhpgaaGreatDoorShut
import Derived.Test.YtkhfadfjkmhpgaaGreatDoorK10
import Derived.Stop.LaidTwo
import Derived.MakeChecks
import Derived.Lib.LaidTab
import Derived.Lib.ItoaNum
import Derived.ChangeMaps5
namespace Go.Proofs.YtkhfadfjkmhpgaaGreatDoor
open Go.ChangeShapes Go.WideShapes Go.ChangeAt Go.WideMaps Go.WideElems Go.RowKit

/-- The tables and the sentinels that the rows list. -/
def laid7 {H : Type} : List (String × DataW H) := [("math/bits.deBruijn32tab", Rows.laid_math_bits_deBruijn32tab), ("math/bits.deBruijn64tab", Rows.laid_math_bits_deBruijn64tab), ("internal/strconv.uint64pow10", Rows.laid_internal_strconv_uint64pow10), ("bspregion/api.ErrSyntax", Rows.laid_bspregion_api_ErrSyntax), ("bspregion/api.ErrLimit", Rows.laid_bspregion_api_ErrLimit), ("bspregion/api.ErrRange", Rows.laid_bspregion_api_ErrRange)]
theorem door7_met (os : Os) (args : Array Value) : laidMetH Tryz.prog laid7 ((World.doorLaid Tryz.prog 400 os).forCall (fun _ _ => 0) ⟨#[], args, []⟩).memory :=
  laidMetH_of_parts3 (fuel := 8) (laidMet_of_run' 8 (by kernel_rfl) (by kernel_rfl)) (by kernel_rfl) (by kernel_rfl)
theorem Tryz.gS : Tryz.prog.globalNamed "bspregion/api.ErrSyntax" = some 0 := by kernel_rfl
theorem Tryz.gL : Tryz.prog.globalNamed "bspregion/api.ErrLimit" = some 2 := by kernel_rfl
theorem Tryz.gR : Tryz.prog.globalNamed "bspregion/api.ErrRange" = some 1 := by kernel_rfl
theorem Tryz.gSType : (Tryz.prog.globals[0]?).map (·.type) = some 68 := by kernel_rfl
theorem Tryz.gLType : (Tryz.prog.globals[2]?).map (·.type) = some 68 := by kernel_rfl
theorem Tryz.gRType : (Tryz.prog.globals[1]?).map (·.type) = some 68 := by kernel_rfl
theorem Tryz.cellsE : Tryz.prog.cellsOf 224 = 1 := by kernel_rfl
theorem Tryz.cellsS : Tryz.prog.cellsOf 9 = 1 := by kernel_rfl
theorem Tryz.star : "*" ++ "errors.errorString" = "*errors.errorString" := by decide
theorem Tryz.rowE (u : TypeId) (h : Tryz.prog.typeName? 3 u = some "*errors.errorString") : u = 199 :=
  typeName_ptr_named (nm := "errors.errorString") (by rw [Tryz.star]; kernel_rfl) (by kernel_rfl) (by decide) u (by rw [Tryz.star]; exact h)
theorem sents7_of_laid {W : World} (h : laidMetH Tryz.prog laid7 W) : ∃ a0 a1 a2 c0 c1 t0 t1, W.cell? ⟨0, 0, none⟩ = some (.iface 199 (.pointer (some a0))) ∧ W.cell? ⟨2, 0, none⟩ = some (.iface 199 (.pointer (some a1))) ∧ W.cell? ⟨1, 0, none⟩ = some (.iface 199 (.pointer (some a2))) ∧ a0 ≠ a1 ∧ W.heap[a0.block]? = some (.cells c0 t0 (0, 0)) ∧ W.heap[a1.block]? = some (.cells c1 t1 (0, 0)) := by
  rw [MakeChecks.laidMetH_plain _ _ _ (by kernel_rfl)] at h
  have h1 : laidMet Tryz.prog [("bspregion/api.ErrSyntax", Rows.laid_bspregion_api_ErrSyntax), ("bspregion/api.ErrLimit", Rows.laid_bspregion_api_ErrLimit), ("bspregion/api.ErrRange", Rows.laid_bspregion_api_ErrRange)] W := h.tail.tail.tail
  have h2 : laidMet Tryz.prog [("bspregion/api.ErrLimit", Rows.laid_bspregion_api_ErrLimit), ("bspregion/api.ErrRange", Rows.laid_bspregion_api_ErrRange)] W := h1.tail
  obtain ⟨a0, a1, _, _, c0, c1, t0, t1, hv0, hv1, _, _, _, _, _, _, hne, hb0, hb1⟩ := laid_sentinels2 h1 Tryz.gS Tryz.gSType Tryz.gL Tryz.gLType Tryz.underlying68 Tryz.rowE Tryz.underlying199 Tryz.underlying224 rfl rfl Tryz.underlying9 Tryz.cellsE Tryz.cellsS
  obtain ⟨_, a2, _, _, _, _, _, _, _, hv2, _⟩ := laid_sentinels2 h2 Tryz.gL Tryz.gLType Tryz.gR Tryz.gRType Tryz.underlying68 Tryz.rowE Tryz.underlying199 Tryz.underlying224 rfl rfl Tryz.underlying9 Tryz.cellsE Tryz.cellsS
  exact ⟨a0, a1, a2, c0, c1, t0, t1, by simpa using World.var?_cell Tryz.gS hv0 0, by simpa using World.var?_cell Tryz.gL hv1 0, by simpa using World.var?_cell Tryz.gR hv2 0, hne, hb0, hb1⟩
theorem Tryz.gP : Tryz.prog.globalNamed "internal/strconv.uint64pow10" = some 5 := by kernel_rfl
theorem Tryz.gPType : (Tryz.prog.globals[5]?).map (·.type) = some 194 := by kernel_rfl
theorem Tryz.arrP : Tryz.prog.underlying 194 = some (.array 20 91) := by kernel_rfl
theorem Tryz.cellsP1 : Tryz.prog.cellsOf 91 = 1 := by kernel_rfl
theorem Tryz.cellsP : Tryz.prog.cellsOf 194 = 20 := by kernel_rfl
theorem pow_data : (Rows.laid_internal_strconv_uint64pow10 : DataW Unit) = Lib.tabData .u64 Lib.pow10Tab := by kernel_rfl
theorem tab_of_laid {W : World} (h : laidMetH Tryz.prog laid7 W) : Lib.TabIs Tryz.prog W "internal/strconv.uint64pow10" .u64 Lib.pow10Tab := by
  rw [MakeChecks.laidMetH_plain _ _ _ (by kernel_rfl)] at h
  have h1 : laidMet Tryz.prog [("internal/strconv.uint64pow10", Rows.laid_internal_strconv_uint64pow10), ("bspregion/api.ErrSyntax", Rows.laid_bspregion_api_ErrSyntax), ("bspregion/api.ErrLimit", Rows.laid_bspregion_api_ErrLimit), ("bspregion/api.ErrRange", Rows.laid_bspregion_api_ErrRange)] W := h.tail.tail
  rw [pow_data] at h1
  exact Lib.tabIs_of_head Tryz.gP Tryz.gPType Tryz.arrP Tryz.underlying91 Tryz.cellsP1 Tryz.cellsP h1
theorem str_bytes (s : ByteArray) : ∃ bs, OkB bs ∧ s = strB bs ∧ bs.length = s.size := by
  refine ⟨s.data.toList.map UInt8.toNat, ?_, ?_, by rw [List.length_map, Array.length_toList]; rfl⟩
  · intro b hb
    obtain ⟨u, _, rfl⟩ := List.mem_map.1 hb
    exact u.toNat_lt
  · apply ByteArray.ext
    apply Array.toList_inj.1
    have h : UInt8.ofNat ∘ UInt8.toNat = id := by funext u; simp
    simp [strB, h]
end Go.Proofs.YtkhfadfjkmhpgaaGreatDoor
