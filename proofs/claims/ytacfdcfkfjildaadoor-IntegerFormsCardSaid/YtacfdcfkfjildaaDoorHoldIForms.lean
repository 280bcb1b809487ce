/-
  IntegerForms: for every list of ints the law returns true and leaves its argument as it was, provided that the listed tables of math/bits and strconv read as the program's text lays them, which the card ties to that text.
-/
import Derived.Test.YtacfdcfkfjildaaDoorShut
import Derived.Test.YtacfdcfkfjildaaDoorLawIForms
import Derived.Test.YtacfdcfkfjildaaDoorArgI
namespace Go.Proofs.YtacfdcfkfjildaaDoor
open Go.ChangeShapes Go.WideShapes Go.ChangeAt Go.WideMaps Go.WideElems Go.RowKit

set_option maxRecDepth 100000 in
theorem integerForms_lifted (os : Os) (started : os.Started) (H : Type) (enc : TypeId × Value → H) :
    ReturnsInHanded {} Tryd.checked os 9 .any (fun w args => (Rows.integerFormsSpec.pre enc Tryd.prog Tryd.f9 [] false w args ∧ laidMetH Tryd.prog laid3 w) ∧ sizedMet enc Tryd.prog Tryd.f9 (OpenSpec.ofChange Rows.integerFormsSpec) false w args)
      (Rows.integerFormsSpec.post enc Tryd.prog Tryd.f9 false true false false) := by
  refine returnsInHanded_of_change_and (C := Tryd.checked) (X := fun w _ => laidMetH Tryd.prog laid3 w) (fun _ _ _ hh h => h.of_heap hh) own started (by kernel_rfl) Tryd.func9
    (ChangeSpec.witness_shaped (enc := enc) (C := Tryd.checked) (os := os) (X := fun w _ => laidMetH Tryd.prog laid3 w) false (World.doorLaid Tryd.prog 400 os) #[.agg #[.bool false, .slice none 0 0], .agg #[.bool false, .slice none 0 0], .int .i64 0] 8 rfl (World.shaped_of_RefB (by kernel_rfl) (by kernel_rfl)) (by kernel_rfl) (by kernel_rfl) (by kernel_rfl) (door3_met os _)) ?_
  intro W base args ds gs before hval0 hW _ _ _ _
  have hval : ∀ (j : Nat) t v, Tryd.f9.params[j]? = some t → args[j]? = some v → Value.okWide Tryd.prog W .any base t v := hval0
  have hW' := hW
  obtain ⟨p, q, hA0, hV, rfl, _, _⟩ := hW
  have hA : DataW.TrodAll enc Tryd.prog W 0 (fun _ => true) true Tryd.f9.params.toList args.toList ds p := hA0
  rw [Tryd.params9] at hA hval
  obtain ⟨v0, v1, v2, d0, d1, d2, p0, p1, p2, rfl, rfl, rfl, h0, h1, h2⟩ := trodAll_three hA
  obtain ⟨rfl, rfl⟩ := trodVars_none hV
  obtain ⟨s0, A0, n0, c0, rfl, ⟨hnc0, hn90, hcell0⟩, hagain0⟩ := open_intarg (hval 0 64 v0 rfl rfl) h0
  obtain ⟨s1, A1, n1, c1, rfl, ⟨hnc1, hn91, hcell1⟩, hagain1⟩ := open_intarg (hval 1 64 v1 rfl rfl) h1
  obtain ⟨z2, rfl, rfl, rfl, hw2⟩ := open_int Tryd.underlying2 (hval 2 2 v2 rfl rfl) h2
  have hz := hw2
  simp [Lit.wf, IntKind.min, IntKind.max, IntKind.bits, IntKind.signed] at hz
  have HA0 : n0 ≤ 20 → ∃ ds, Raw W (.slice A0 n0 c0) ds := fun h => raw_of_cells hnc0 hcell0 (by omega)
  have HA1 : n1 ≤ 20 → ∃ ds, Raw W (.slice A1 n1 c1) ds := fun h => raw_of_cells hnc1 hcell1 (by omega)
  clear hA0 hval0
  simp only [List.append_nil] at hW'
  refine (integerforms_any HA0 HA1 z2 (by omega) (by omega)).mono fun e W' ⟨he, hb⟩ => ?_
  subst he
  exact ⟨_, rfl, post_made (pa := _) (pv := []) hW' (fun _ _ _ => trodAll_mk1 (shut_bool Tryd.underlying4 _)) (fun sp hsp => trodAll_mk3 (hagain0 W' hb sp (fun q hq => hsp q (by simp [hq]))) (hagain1 W' hb sp (fun q hq => hsp q (by simp [hq]))) (shut_int Tryd.underlying2 hw2)) (fun _ _ => rfl) (by simp) hb⟩

theorem integerForms_holds : Rows.IntegerFormsSaid :=
  OpenClaim.holds_of_wide 9 Tryd.f9 rfl rfl rfl rfl rfl rfl rfl ⟨rfl, rfl, rfl, rfl, rfl⟩ rfl rfl rfl rfl rfl (by kernel_rfl) Tryd.func9 (by kernel_rfl)
    (of_decide_eq_true (by kernel_rfl)) (by unfold Func.isWrapper; first | (rw [if_pos (by decide +kernel)]; kernel_rfl) | (rw [if_neg (by decide +kernel)]; exact ⟨rfl, rfl⟩))
    (fun os started H enc _ => integerForms_lifted os started H enc)

theorem integerForms_card : Rows.IntegerFormsCardSaid :=
  Claim7.holds_tied_plain_at .later [] [.data, .data, .data] true _ true
    integerForms_holds (fun _ h => by cases h) (by kernel_rfl) (fun _ h => by cases h) integerForms_row_tie rfl ⟨rfl, rfl⟩ (by kernel_rfl) rfl
    (fun f fn hf hfn => by
      obtain rfl : f = 9 := Option.some.inj ((show Tryd.prog.funcNamed "bspregion/bspregionlaw02.IntegerForms" = some 9 by kernel_rfl).symm.trans hf) |>.symm
      obtain rfl : fn = Tryd.f9 := (Option.some.inj (Tryd.func9.symm.trans hfn)).symm
      exact ⟨by kernel_rfl, fun j t ht => by
        rw [Tryd.params9] at ht
        have hm : t ∈ [64, 64, 2] := by simpa using Array.mem_of_getElem? ht
        have hall : ([64, 64, 2].all fun u => !Tryd.prog.wantsStandIn u) = true := by kernel_rfl
        exact (show Tryd.prog.wantsStandIn t = false by simpa using List.all_eq_true.1 hall t hm)⟩)
    (by kernel_rfl)
#print axioms integerForms_card
end Go.Proofs.YtacfdcfkfjildaaDoor
