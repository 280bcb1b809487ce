/-
  SpanAlgebra: for every list of ints the law returns true and leaves its argument as it was, provided that the listed sentinel errors of package api read as the program's text lays them, which the card ties to that text.
-/
import Derived.Test.YtfdlkbbepkghmaaGreatDoorVBox
import Derived.Test.YtfdlkbbepkghmaaGreatDoorVDivLong
import Derived.Test.YtfdlkbbepkghmaaGreatDoorVFormI
import Derived.Test.YtfdlkbbepkghmaaGreatDoorVK1
import Derived.Test.YtfdlkbbepkghmaaGreatDoorVK2
import Derived.Test.YtfdlkbbepkghmaaGreatDoorVK3
import Derived.Test.YtfdlkbbepkghmaaGreatDoorVK4
import Derived.Test.YtfdlkbbepkghmaaGreatDoorVK5
import Derived.Test.YtfdlkbbepkghmaaGreatDoorVK6
import Derived.Test.YtfdlkbbepkghmaaGreatDoorVK7
import Derived.Test.YtfdlkbbepkghmaaGreatDoorVK8
import Derived.Test.YtfdlkbbepkghmaaGreatDoorVK9
import Derived.Test.YtfdlkbbepkghmaaGreatDoorVLaidS
import Derived.Test.YtfdlkbbepkghmaaGreatDoorVLawSAlgebra
import Derived.Test.YtfdlkbbepkghmaaGreatDoorVN1
import Derived.Test.YtfdlkbbepkghmaaGreatDoorVOrd
import Derived.Test.YtfdlkbbepkghmaaGreatDoorVPP
import Derived.Test.YtfdlkbbepkghmaaGreatDoorVR1
import Derived.Test.YtfdlkbbepkghmaaGreatDoorVRA
import Derived.Test.YtfdlkbbepkghmaaGreatDoorVRatD
import Derived.Test.YtfdlkbbepkghmaaGreatDoorVRatO
import Derived.Test.YtfdlkbbepkghmaaGreatDoorVRatR
import Derived.Test.YtfdlkbbepkghmaaGreatDoorVRatS
import Derived.Test.YtfdlkbbepkghmaaGreatDoorVS1
import Derived.Test.YtfdlkbbepkghmaaGreatDoorVSA
import Derived.Test.YtfdlkbbepkghmaaGreatDoorVSG
import Derived.Test.YtfdlkbbepkghmaaGreatDoorVShelf
import Derived.Test.YtfdlkbbepkghmaaGreatDoorVShutC
import Derived.Test.YtfdlkbbepkghmaaGreatDoorVSpH
import Derived.Test.YtfdlkbbepkghmaaGreatDoorVSpI
import Derived.Test.YtfdlkbbepkghmaaGreatDoorVSpJ
import Derived.Test.YtfdlkbbepkghmaaGreatDoorVSpK
import Derived.Test.YtfdlkbbepkghmaaGreatDoorVSpM
import Derived.Test.YtfdlkbbepkghmaaGreatDoorVSpN
import Derived.Test.YtfdlkbbepkghmaaGreatDoorVSpP
import Derived.Test.YtfdlkbbepkghmaaGreatDoorVSpQ
import Derived.Test.YtfdlkbbepkghmaaGreatDoorVSpR
import Derived.Test.YtfdlkbbepkghmaaGreatDoorVSpS
import Derived.Test.YtfdlkbbepkghmaaGreatDoorVSpT
import Derived.Test.YtfdlkbbepkghmaaGreatDoorVSpU
import Derived.Test.YtfdlkbbepkghmaaGreatDoorVSpV
import Derived.Test.YtfdlkbbepkghmaaGreatDoorVSpW
import Derived.Test.YtfdlkbbepkghmaaGreatDoorVSpW0
import Derived.Test.YtfdlkbbepkghmaaGreatDoorVSpX
import Derived.Test.YtfdlkbbepkghmaaGreatDoorVSpY
import Derived.Test.YtfdlkbbepkghmaaGreatDoorVSpZ
import Derived.Test.YtfdlkbbepkghmaaGreatDoorVTT
namespace Go.Proofs.YtfdlkbbepkghmaaGreatDoor
open Go.ChangeShapes Go.WideShapes Go.ChangeAt Go.WideMaps Go.WideElems Go.RowKit

set_option maxRecDepth 100000 in
theorem spanAlgebra_lifted (os : Os) (started : os.Started) (H : Type) (enc : TypeId × Value → H) :
    ReturnsInHanded {} Tryz.checked os 7 .any (fun w args => (Rows.spanAlgebraSpec.pre enc Tryz.prog Tryz.f7 [] false w args ∧ laidMetH Tryz.prog laidA w) ∧ sizedMet enc Tryz.prog Tryz.f7 (OpenSpec.ofChange Rows.spanAlgebraSpec) false w args)
      (Rows.spanAlgebraSpec.post enc Tryz.prog Tryz.f7 false true false false) := by
  refine returnsInHanded_of_change_and (C := Tryz.checked) (X := fun w _ => laidMetH Tryz.prog laidA w) (fun _ _ _ hh h => h.of_heap hh) own started (by kernel_rfl) Tryz.func7
    (ChangeSpec.witness_shaped (enc := enc) (C := Tryz.checked) (os := os) (X := fun w _ => laidMetH Tryz.prog laidA w) false (World.doorLaid Tryz.prog 400 os) #[.slice none 0 0] 8 rfl (World.shaped_of_RefB (by kernel_rfl) (by kernel_rfl)) (by kernel_rfl) (by kernel_rfl) (by kernel_rfl) (doorA_met os _)) ?_
  intro W base args ds gs before hval0 hW _ _ hL _
  have hval : ∀ (j : Nat) t v, Tryz.f7.params[j]? = some t → args[j]? = some v → Value.okWide Tryz.prog W .any base t v := hval0
  have hW' := hW
  obtain ⟨p, q, hA0, hV, rfl, _, _⟩ := hW
  have hA : DataW.TrodAll enc Tryz.prog W 0 (fun _ => true) true Tryz.f7.params.toList args.toList ds p := hA0
  rw [Tryz.params7] at hA hval
  obtain ⟨v0, d0, rfl, rfl, h0⟩ := trodAll_one hA
  obtain ⟨rfl, rfl⟩ := trodVars_none hV
  obtain ⟨A, n, c, rfl⟩ := okWide_slice Tryz.underlying58 (hval 0 58 v0 rfl rfl)
  obtain ⟨⟨hnc, hn9, hcell⟩, hagain⟩ := open_row Tryz.underlying58 Tryz.underlying3 Tryz.cells_int h0
  clear hA0 hval0
  simp only [List.append_nil] at hW'
  have HI : Ints W (.slice A n c) := ⟨A, n, c, rfl, hnc, hn9, fun j hj => by
    obtain ⟨ad, z, e1, e2, e3, _⟩ := hcell j hj
    exact ⟨ad, z, e1, e2, e3⟩⟩
  refine (spanalgebra_any HI).mono fun e W' ⟨he, hb⟩ => ?_
  subst he
  exact ⟨_, rfl, post_made (pa := p) (pv := []) hW' (fun _ _ _ => trodAll_mk1 (shut_bool Tryz.underlying4 _)) (fun sp hsp => trodAll_mk1 (hagain W' hb sp hsp)) (fun _ _ => rfl) (by simp) hb⟩

theorem spanAlgebra_holds : Rows.SpanAlgebraSaid :=
  OpenClaim.holds_of_wide 7 Tryz.f7 rfl rfl rfl rfl rfl rfl rfl ⟨rfl, rfl, rfl, rfl, rfl⟩ rfl rfl rfl rfl rfl (by kernel_rfl) Tryz.func7 (by kernel_rfl)
    (of_decide_eq_true (by kernel_rfl)) (by unfold Func.isWrapper; first | (rw [if_pos (by decide +kernel)]; kernel_rfl) | (rw [if_neg (by decide +kernel)]; exact ⟨rfl, rfl⟩))
    (fun os started H enc _ => spanAlgebra_lifted os started H enc)

theorem spanAlgebra_card : Rows.SpanAlgebraCardSaid :=
  Claim7.holds_tied_plain_at .later [] [.sentinel] true _ _
    spanAlgebra_holds (fun _ h => by cases h) (by kernel_rfl) (fun _ h => by cases h) spanAlgebra_row_tie rfl ⟨rfl, rfl⟩ (by kernel_rfl) rfl
    (fun f fn hf hfn => by
      obtain rfl : f = 7 := Option.some.inj ((show Tryz.prog.funcNamed "bspregion/bspregionlaw06.SpanAlgebra" = some 7 by kernel_rfl).symm.trans hf) |>.symm
      obtain rfl : fn = Tryz.f7 := (Option.some.inj (Tryz.func7.symm.trans hfn)).symm
      exact ⟨by kernel_rfl, fun j t ht => by
        rw [Tryz.params7] at ht
        have hm : t ∈ [58] := by simpa using Array.mem_of_getElem? ht
        have hall : ([58].all fun u => !Tryz.prog.wantsStandIn u) = true := by kernel_rfl
        exact (show Tryz.prog.wantsStandIn t = false by simpa using List.all_eq_true.1 hall t hm)⟩)
    (by kernel_rfl)
#print axioms spanAlgebra_card
end Go.Proofs.YtfdlkbbepkghmaaGreatDoor
