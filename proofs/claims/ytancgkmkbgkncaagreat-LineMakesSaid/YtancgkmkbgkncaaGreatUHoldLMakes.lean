/-
  LineMakes: for all three integers, in normal form or not, and every list of ints the law returns true and leaves its arguments as they were. No condition is laid on package-level variables.
-/
import Derived.Test.YtancgkmkbgkncaaGreatUEM
import Derived.Test.YtancgkmkbgkncaaGreatUArgIN
import Derived.Test.YtancgkmkbgkncaaGreatURaws
import Derived.Test.YtancgkmkbgkncaaGreatULawLMakes
import Derived.Carry
namespace Go.Proofs.YtancgkmkbgkncaaGreat
open Go.ChangeShapes Go.WideShapes Go.ChangeAt Go.WideMaps Go.WideElems Go.RowKit

set_option maxRecDepth 100000 in
theorem lineMakes_lifted (os : Os) (started : os.Started) (H : Type) (enc : TypeId × Value → H) :
    ReturnsInHanded {} Tryz.checked os 3 .any (Rows.lineMakesSpec.pre6 enc Tryz.prog Tryz.f3 Rows.lineMakesRow.domain false) (Rows.lineMakesSpec.post enc Tryz.prog Tryz.f3 false true false false) := by
  refine returnsInHanded_of_change (C := Tryz.checked) own started (by kernel_rfl) Tryz.func3
    (ChangeSpec.witness6 (enc := enc) (C := Tryz.checked) false ⟨#[], #[.agg #[.bool false, .slice none 0 0], .agg #[.bool false, .slice none 0 0], .agg #[.bool false, .slice none 0 0], .slice none 0 0], []⟩ 8 (by kernel_rfl) (by kernel_rfl) (by kernel_rfl) (by kernel_rfl)) ?_
  intro W base args ds gs before hval0 hW _ _
  have hval : ∀ (j : Nat) t v, Tryz.f3.params[j]? = some t → args[j]? = some v → Value.okWide Tryz.prog W .any base t v := hval0
  have hW' := hW
  obtain ⟨p, q, hA0, hV, rfl, _, _⟩ := hW
  have hA : DataW.TrodAll enc Tryz.prog W 0 (fun _ => true) true Tryz.f3.params.toList args.toList ds p := hA0
  rw [Tryz.params3] at hA hval
  obtain ⟨v0, v1, v2, v3, d0, d1, d2, d3, p0, p1, p2, p3, rfl, rfl, rfl, h0, h1, h2, h3⟩ := trodAll_four hA
  obtain ⟨rfl, rfl⟩ := trodVars_none hV
  obtain ⟨s0, A0, n0, c0, rfl, ⟨hnc0, hn90, hcell0⟩, hagain0⟩ := open_intarg (hval 0 25 v0 rfl rfl) h0
  obtain ⟨s1, A1, n1, c1, rfl, ⟨hnc1, hn91, hcell1⟩, hagain1⟩ := open_intarg (hval 1 25 v1 rfl rfl) h1
  obtain ⟨s2, A2, n2, c2, rfl, ⟨hnc2, hn92, hcell2⟩, hagain2⟩ := open_intarg (hval 2 25 v2 rfl rfl) h2
  obtain ⟨A3, n3, c3, rfl⟩ := okWide_slice Tryz.underlying26 (hval 3 26 v3 rfl rfl)
  obtain ⟨⟨hnc3, hn93, hcell3⟩, hagain3⟩ := open_row Tryz.underlying26 Tryz.underlying3 Tryz.cells_int h3
  have HA0 : n0 ≤ 5 → ∃ ds, Raw W (.slice A0 n0 c0) ds := fun h => raw_of_cells hnc0 hcell0 (by omega)
  have HA1 : n1 ≤ 5 → ∃ ds, Raw W (.slice A1 n1 c1) ds := fun h => raw_of_cells hnc1 hcell1 (by omega)
  have HA2 : n2 ≤ 5 → ∃ ds, Raw W (.slice A2 n2 c2) ds := fun h => raw_of_cells hnc2 hcell2 (by omega)
  clear hA0 hval0
  simp only [List.append_nil] at hW'
  have HI : Ints W (.slice A3 n3 c3) := ⟨A3, n3, c3, rfl, hnc3, hn93, fun j hj => by
    obtain ⟨ad, z, e1, e2, e3, _⟩ := hcell3 j hj
    exact ⟨ad, z, e1, e2, e3⟩⟩
  refine (linemakes_any HA0 HA1 HA2 HI).mono fun e W' ⟨he, hb⟩ => ?_
  subst he
  exact ⟨_, rfl, post_made (pa := _) (pv := []) hW' (fun _ _ _ => trodAll_mk1 (shut_bool Tryz.underlying4 _)) (fun sp hsp => trodAll_mk4 (hagain0 W' hb sp (fun q hq => hsp q (by simp [hq]))) (hagain1 W' hb sp (fun q hq => hsp q (by simp [hq]))) (hagain2 W' hb sp (fun q hq => hsp q (by simp [hq]))) (hagain3 W' hb sp (fun q hq => hsp q (by simp [hq])))) (fun _ _ => rfl) (by simp) hb⟩

theorem lineMakes_holds : Rows.LineMakesSaid :=
  OpenClaim.holds_of_wide 3 Tryz.f3 rfl rfl rfl rfl rfl rfl rfl ⟨rfl, rfl, rfl, rfl, rfl⟩ rfl rfl rfl rfl rfl (by kernel_rfl) Tryz.func3 (by kernel_rfl)
    (of_decide_eq_true (by kernel_rfl)) (by unfold Func.isWrapper; first | (rw [if_pos (by decide +kernel)]; kernel_rfl) | (rw [if_neg (by decide +kernel)]; exact ⟨rfl, rfl⟩))
    (fun os started H enc _ => lineMakes_lifted os started H enc)
#print axioms lineMakes_holds
end Go.Proofs.YtancgkmkbgkncaaGreat
