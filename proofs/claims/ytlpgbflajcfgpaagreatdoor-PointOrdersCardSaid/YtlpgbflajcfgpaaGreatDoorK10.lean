/-
  Only, Scale, Parse, Prefix in one text.
-/
import Derived.Test.YtlpgbflajcfgpaaGreatDoorK2
import Derived.WalkSpells
import Derived.Lib.Strings
import Derived.LoopN
import Derived.Test.YtlpgbflajcfgpaaGreatDoorK1
import Derived.Laws.MakeOwn
namespace Go.Proofs.YtlpgbflajcfgpaaGreatDoor
open Go.RowKit

theorem strB_size (bs : List Nat) : (strB bs).size = bs.length := by simp [strB, ByteArray.size]
section
variable {bs : List Nat} {w : World}
end
end Go.Proofs.YtlpgbflajcfgpaaGreatDoor
namespace Go.Proofs.YtlpgbflajcfgpaaGreatDoor
open Go.RowKit

theorem Grow.set {w : World} {B g n cap : Nat} {ds : List Nat} (h : Grow w B (.slice (some ⟨g, 0, none⟩) n cap) ds) (j d : Nat) (hd : d < 4294967296) : Grow (w.setCell ⟨g, j, none⟩ (.int .u32 (d : Int))) B (.slice (some ⟨g, 0, none⟩) n cap) (ds.set j d) := by
  obtain ⟨h0, h1, h2⟩ := h
  refine ⟨okD_set h0 j hd, by simp, ?_⟩
  rcases h2 with ⟨h2, _⟩ | ⟨g', cap', cur, hv, hgB, hh, h3, h4, h5, h6⟩
  · injection h2 with h2; cases h2
  · injection hv with e1 e2 e3
    injection e1 with e1
    injection e1 with e1
    subst e1
    refine .inr ⟨g, cap', cur.setIfInBounds j (.int .u32 (d : Int)), ?_, hgB, heap_setCell_same w g j _ _ _ hh, by simpa using h3, h4, by simpa using h5, ?_⟩
    · rw [e3, List.length_set, e2]
    · rw [Nat.mul_one] at h6 ⊢
      rw [List.length_set, Array.toList_setIfInBounds, List.take_set, h6, List.map_set]
      rfl

end Go.Proofs.YtlpgbflajcfgpaaGreatDoor
namespace Go.Proofs.YtlpgbflajcfgpaaGreatDoor
open Go.RowKit

end Go.Proofs.YtlpgbflajcfgpaaGreatDoor
namespace Go.Proofs.YtlpgbflajcfgpaaGreatDoor
open Go.RowKit

end Go.Proofs.YtlpgbflajcfgpaaGreatDoor
