/-
  LinePoints: for every list of ints the law returns true and leaves its argument as it was. No condition is laid on package-level variables.
-/
import Derived.Test.YtancgkmkbgkncaaGreatUBox
import Derived.Test.YtancgkmkbgkncaaGreatUDivLong
import Derived.Test.YtancgkmkbgkncaaGreatUEA
import Derived.Test.YtancgkmkbgkncaaGreatUFormI
import Derived.Test.YtancgkmkbgkncaaGreatUIGcd
import Derived.Test.YtancgkmkbgkncaaGreatUK1
import Derived.Test.YtancgkmkbgkncaaGreatUK2
import Derived.Test.YtancgkmkbgkncaaGreatUK3
import Derived.Test.YtancgkmkbgkncaaGreatUK4
import Derived.Test.YtancgkmkbgkncaaGreatUK5
import Derived.Test.YtancgkmkbgkncaaGreatUK6
import Derived.Test.YtancgkmkbgkncaaGreatUK7
import Derived.Test.YtancgkmkbgkncaaGreatUK8
import Derived.Test.YtancgkmkbgkncaaGreatUK9
import Derived.Test.YtancgkmkbgkncaaGreatULawLPoints
import Derived.Test.YtancgkmkbgkncaaGreatULnA
import Derived.Test.YtancgkmkbgkncaaGreatULnB
import Derived.Test.YtancgkmkbgkncaaGreatULnC
import Derived.Test.YtancgkmkbgkncaaGreatULnD
import Derived.Test.YtancgkmkbgkncaaGreatULnG
import Derived.Test.YtancgkmkbgkncaaGreatULnH
import Derived.Test.YtancgkmkbgkncaaGreatULnK
import Derived.Test.YtancgkmkbgkncaaGreatULnM
import Derived.Test.YtancgkmkbgkncaaGreatULnP
import Derived.Test.YtancgkmkbgkncaaGreatULnQ
import Derived.Test.YtancgkmkbgkncaaGreatULnT
import Derived.Test.YtancgkmkbgkncaaGreatULnV
import Derived.Test.YtancgkmkbgkncaaGreatULnX
import Derived.Test.YtancgkmkbgkncaaGreatUN1
import Derived.Test.YtancgkmkbgkncaaGreatUOrd
import Derived.Test.YtancgkmkbgkncaaGreatUPhase
import Derived.Test.YtancgkmkbgkncaaGreatUPtA
import Derived.Test.YtancgkmkbgkncaaGreatUPtG
import Derived.Test.YtancgkmkbgkncaaGreatUPtT
import Derived.Test.YtancgkmkbgkncaaGreatUR1
import Derived.Test.YtancgkmkbgkncaaGreatURatA
import Derived.Test.YtancgkmkbgkncaaGreatURatC
import Derived.Test.YtancgkmkbgkncaaGreatURatD
import Derived.Test.YtancgkmkbgkncaaGreatURatR
import Derived.Test.YtancgkmkbgkncaaGreatURatS
import Derived.Test.YtancgkmkbgkncaaGreatURatT
import Derived.Test.YtancgkmkbgkncaaGreatUS1
import Derived.Test.YtancgkmkbgkncaaGreatUShelf
import Derived.Test.YtancgkmkbgkncaaGreatUShutN
namespace Go.Proofs.YtancgkmkbgkncaaGreat
open Go.ChangeShapes Go.WideShapes Go.ChangeAt Go.WideMaps Go.WideElems Go.RowKit

set_option maxRecDepth 100000 in
theorem linePoints_lifted (os : Os) (started : os.Started) (H : Type) (enc : TypeId × Value → H) :
    ReturnsInHanded {} Tryz.checked os 6 .any (Rows.linePointsSpec.pre6 enc Tryz.prog Tryz.f6 Rows.linePointsRow.domain false) (Rows.linePointsSpec.post enc Tryz.prog Tryz.f6 false true false false) := by
  refine returnsInHanded_of_change (C := Tryz.checked) own started (by kernel_rfl) Tryz.func6
    (ChangeSpec.witness6 (enc := enc) (C := Tryz.checked) false ⟨#[], #[.slice none 0 0], []⟩ 8 (by kernel_rfl) (by kernel_rfl) (by kernel_rfl) (by kernel_rfl)) ?_
  intro W base args ds gs before hval0 hW _ _
  have hval : ∀ (j : Nat) t v, Tryz.f6.params[j]? = some t → args[j]? = some v → Value.okWide Tryz.prog W .any base t v := hval0
  have hW' := hW
  obtain ⟨p, q, hA0, hV, rfl, _, _⟩ := hW
  have hA : DataW.TrodAll enc Tryz.prog W 0 (fun _ => true) true Tryz.f6.params.toList args.toList ds p := hA0
  rw [Tryz.params6] at hA hval
  obtain ⟨v0, d0, rfl, rfl, h0⟩ := trodAll_one hA
  obtain ⟨rfl, rfl⟩ := trodVars_none hV
  obtain ⟨A, n, c, rfl⟩ := okWide_slice Tryz.underlying26 (hval 0 26 v0 rfl rfl)
  obtain ⟨⟨hnc, hn9, hcell⟩, hagain⟩ := open_row Tryz.underlying26 Tryz.underlying3 Tryz.cells_int h0
  clear hA0 hval0
  simp only [List.append_nil] at hW'
  have HI : Ints W (.slice A n c) := ⟨A, n, c, rfl, hnc, hn9, fun j hj => by
    obtain ⟨ad, z, e1, e2, e3, _⟩ := hcell j hj
    exact ⟨ad, z, e1, e2, e3⟩⟩
  refine (linepoints_any HI).mono fun e W' ⟨he, hb⟩ => ?_
  subst he
  exact ⟨_, rfl, post_made (pa := p) (pv := []) hW' (fun _ _ _ => trodAll_mk1 (shut_bool Tryz.underlying4 _)) (fun sp hsp => trodAll_mk1 (hagain W' hb sp hsp)) (fun _ _ => rfl) (by simp) hb⟩

theorem linePoints_holds : Rows.LinePointsSaid :=
  OpenClaim.holds_of_wide 6 Tryz.f6 rfl rfl rfl rfl rfl rfl rfl ⟨rfl, rfl, rfl, rfl, rfl⟩ rfl rfl rfl rfl rfl (by kernel_rfl) Tryz.func6 (by kernel_rfl)
    (of_decide_eq_true (by kernel_rfl)) (by unfold Func.isWrapper; first | (rw [if_pos (by decide +kernel)]; kernel_rfl) | (rw [if_neg (by decide +kernel)]; exact ⟨rfl, rfl⟩))
    (fun os started H enc _ => linePoints_lifted os started H enc)
#print axioms linePoints_holds
end Go.Proofs.YtancgkmkbgkncaaGreat
