/-
  LineComputes: for every list of ints the law returns true and leaves its argument as it was. No condition is laid on package-level variables.
-/
import Derived.Test.YtancgkmkbgkncaaGreatSBox
import Derived.Test.YtancgkmkbgkncaaGreatSDivLong
import Derived.Test.YtancgkmkbgkncaaGreatSEA
import Derived.Test.YtancgkmkbgkncaaGreatSFormI
import Derived.Test.YtancgkmkbgkncaaGreatSIGcd
import Derived.Test.YtancgkmkbgkncaaGreatSK1
import Derived.Test.YtancgkmkbgkncaaGreatSK2
import Derived.Test.YtancgkmkbgkncaaGreatSK3
import Derived.Test.YtancgkmkbgkncaaGreatSK4
import Derived.Test.YtancgkmkbgkncaaGreatSK5
import Derived.Test.YtancgkmkbgkncaaGreatSK6
import Derived.Test.YtancgkmkbgkncaaGreatSK7
import Derived.Test.YtancgkmkbgkncaaGreatSK8
import Derived.Test.YtancgkmkbgkncaaGreatSK9
import Derived.Test.YtancgkmkbgkncaaGreatSLawLComp
import Derived.Test.YtancgkmkbgkncaaGreatSLnA
import Derived.Test.YtancgkmkbgkncaaGreatSLnB
import Derived.Test.YtancgkmkbgkncaaGreatSLnD
import Derived.Test.YtancgkmkbgkncaaGreatSLnG
import Derived.Test.YtancgkmkbgkncaaGreatSLnH
import Derived.Test.YtancgkmkbgkncaaGreatSLnK
import Derived.Test.YtancgkmkbgkncaaGreatSLnM
import Derived.Test.YtancgkmkbgkncaaGreatSLnP
import Derived.Test.YtancgkmkbgkncaaGreatSLnQ
import Derived.Test.YtancgkmkbgkncaaGreatSLnT
import Derived.Test.YtancgkmkbgkncaaGreatSLnV
import Derived.Test.YtancgkmkbgkncaaGreatSLnW
import Derived.Test.YtancgkmkbgkncaaGreatSN1
import Derived.Test.YtancgkmkbgkncaaGreatSOrd
import Derived.Test.YtancgkmkbgkncaaGreatSPhase
import Derived.Test.YtancgkmkbgkncaaGreatSPtA
import Derived.Test.YtancgkmkbgkncaaGreatSPtG
import Derived.Test.YtancgkmkbgkncaaGreatSPtT
import Derived.Test.YtancgkmkbgkncaaGreatSR1
import Derived.Test.YtancgkmkbgkncaaGreatSRatA
import Derived.Test.YtancgkmkbgkncaaGreatSRatC
import Derived.Test.YtancgkmkbgkncaaGreatSRatD
import Derived.Test.YtancgkmkbgkncaaGreatSRatR
import Derived.Test.YtancgkmkbgkncaaGreatSRatS
import Derived.Test.YtancgkmkbgkncaaGreatSRatT
import Derived.Test.YtancgkmkbgkncaaGreatSS1
import Derived.Test.YtancgkmkbgkncaaGreatSShelf
import Derived.Test.YtancgkmkbgkncaaGreatSShutN
namespace Go.Proofs.YtancgkmkbgkncaaGreat
open Go.ChangeShapes Go.WideShapes Go.ChangeAt Go.WideMaps Go.WideElems Go.RowKit

set_option maxRecDepth 100000 in
theorem lineComputes_lifted (os : Os) (started : os.Started) (H : Type) (enc : TypeId × Value → H) :
    ReturnsInHanded {} Tryz.checked os 4 .any (Rows.lineComputesSpec.pre6 enc Tryz.prog Tryz.f4 Rows.lineComputesRow.domain false) (Rows.lineComputesSpec.post enc Tryz.prog Tryz.f4 false true false false) := by
  refine returnsInHanded_of_change (C := Tryz.checked) own started (by kernel_rfl) Tryz.func4
    (ChangeSpec.witness6 (enc := enc) (C := Tryz.checked) false ⟨#[], #[.slice none 0 0], []⟩ 8 (by kernel_rfl) (by kernel_rfl) (by kernel_rfl) (by kernel_rfl)) ?_
  intro W base args ds gs before hval0 hW _ _
  have hval : ∀ (j : Nat) t v, Tryz.f4.params[j]? = some t → args[j]? = some v → Value.okWide Tryz.prog W .any base t v := hval0
  have hW' := hW
  obtain ⟨p, q, hA0, hV, rfl, _, _⟩ := hW
  have hA : DataW.TrodAll enc Tryz.prog W 0 (fun _ => true) true Tryz.f4.params.toList args.toList ds p := hA0
  rw [Tryz.params4] at hA hval
  obtain ⟨v0, d0, rfl, rfl, h0⟩ := trodAll_one hA
  obtain ⟨rfl, rfl⟩ := trodVars_none hV
  obtain ⟨A, n, c, rfl⟩ := okWide_slice Tryz.underlying26 (hval 0 26 v0 rfl rfl)
  obtain ⟨⟨hnc, hn9, hcell⟩, hagain⟩ := open_row Tryz.underlying26 Tryz.underlying3 Tryz.cells_int h0
  clear hA0 hval0
  simp only [List.append_nil] at hW'
  have HI : Ints W (.slice A n c) := ⟨A, n, c, rfl, hnc, hn9, fun j hj => by
    obtain ⟨ad, z, e1, e2, e3, _⟩ := hcell j hj
    exact ⟨ad, z, e1, e2, e3⟩⟩
  refine (linecomputes_any HI).mono fun e W' ⟨he, hb⟩ => ?_
  subst he
  exact ⟨_, rfl, post_made (pa := p) (pv := []) hW' (fun _ _ _ => trodAll_mk1 (shut_bool Tryz.underlying4 _)) (fun sp hsp => trodAll_mk1 (hagain W' hb sp hsp)) (fun _ _ => rfl) (by simp) hb⟩

theorem lineComputes_holds : Rows.LineComputesSaid :=
  OpenClaim.holds_of_wide 4 Tryz.f4 rfl rfl rfl rfl rfl rfl rfl ⟨rfl, rfl, rfl, rfl, rfl⟩ rfl rfl rfl rfl rfl (by kernel_rfl) Tryz.func4 (by kernel_rfl)
    (of_decide_eq_true (by kernel_rfl)) (by unfold Func.isWrapper; first | (rw [if_pos (by decide +kernel)]; kernel_rfl) | (rw [if_neg (by decide +kernel)]; exact ⟨rfl, rfl⟩))
    (fun os started H enc _ => lineComputes_lifted os started H enc)
#print axioms lineComputes_holds
end Go.Proofs.YtancgkmkbgkncaaGreat
