/-
  PointForms: for every two points and every two int64s the law returns true and leaves its arguments as they were, provided that the listed tables of math/bits and strconv read as the program's text lays them, which the card ties to that text.
-/
import Derived.Test.YtlpgbflajcfgpaaGreatDoorL8
import Derived.Test.YtlpgbflajcfgpaaGreatDoorLawPForms
import Derived.Test.YtlpgbflajcfgpaaGreatDoorA1
import Derived.Carry
import Derived.Test.YtlpgbflajcfgpaaGreatDoorE1
import Derived.Test.YtlpgbflajcfgpaaGreatDoorE2
import Derived.Test.YtlpgbflajcfgpaaGreatDoorE3
import Derived.Test.YtlpgbflajcfgpaaGreatDoorE4
import Derived.Test.YtlpgbflajcfgpaaGreatDoorEY
import Derived.Test.YtlpgbflajcfgpaaGreatDoorEZ
namespace Go.Proofs.YtlpgbflajcfgpaaGreatDoor
open Go.ChangeShapes Go.WideShapes Go.ChangeAt Go.WideMaps Go.WideElems Go.RowKit

set_option maxRecDepth 100000 in
theorem pointForms_lifted (os : Os) (started : os.Started) (H : Type) (enc : TypeId × Value → H) :
    ReturnsInHanded {} Tryz.checked os 3 .any (fun w args => (Rows.pointFormsSpec.pre enc Tryz.prog Tryz.f3 [] false w args ∧ laidMetH Tryz.prog laid8 w) ∧ sizedMet enc Tryz.prog Tryz.f3 (OpenSpec.ofChange Rows.pointFormsSpec) false w args)
      (Rows.pointFormsSpec.post enc Tryz.prog Tryz.f3 false true false false) := by
  refine returnsInHanded_of_change_and (C := Tryz.checked) (X := fun w _ => laidMetH Tryz.prog laid8 w) (fun _ _ _ hh h => h.of_heap hh) own started (by kernel_rfl) Tryz.func3
    (ChangeSpec.witness_shaped (enc := enc) (C := Tryz.checked) (os := os) (X := fun w _ => laidMetH Tryz.prog laid8 w) false (World.doorLaid Tryz.prog 400 os) #[.agg #[.bool false, .slice none 0 0, .slice none 0 0, .bool false, .slice none 0 0, .slice none 0 0], .agg #[.bool false, .slice none 0 0, .slice none 0 0, .bool false, .slice none 0 0, .slice none 0 0], .int .i64 0, .int .i64 0] 8 rfl (World.shaped_of_RefB (by kernel_rfl) (by kernel_rfl)) (by kernel_rfl) (by kernel_rfl) (by kernel_rfl) (door8_met os _)) ?_
  intro W base args ds gs before hval0 hW _ _ hL _
  have hval : ∀ (j : Nat) t v, Tryz.f3.params[j]? = some t → args[j]? = some v → Value.okWide Tryz.prog W .any base t v := hval0
  have hW' := hW
  obtain ⟨p, q, hA0, hV, rfl, _, _⟩ := hW
  have hA : DataW.TrodAll enc Tryz.prog W 0 (fun _ => true) true Tryz.f3.params.toList args.toList ds p := hA0
  rw [Tryz.params3] at hA hval
  obtain ⟨v0, v1, v2, v3, d0, d1, d2, d3, p0, p1, p2, p3, rfl, rfl, rfl, h0, h1, h2, h3⟩ := trodAll_four hA
  obtain ⟨rfl, rfl⟩ := trodVars_none hV
  obtain ⟨s0, A0, n0, c0, D0, m0, e0, s1, A1, n1, c1, D1, m1, e1, rfl, ⟨hnc0, hn90, hcell0⟩, ⟨hmc0, hm90, hdell0⟩, ⟨hnc1, hn91, hcell1⟩, ⟨hmc1, hm91, hdell1⟩, hagain0⟩ := open_pointarg (hval 0 29 v0 rfl rfl) h0
  obtain ⟨s2, A2, n2, c2, D2, m2, e2, s3, A3, n3, c3, D3, m3, e3, rfl, ⟨hnc2, hn92, hcell2⟩, ⟨hmc2, hm92, hdell2⟩, ⟨hnc3, hn93, hcell3⟩, ⟨hmc3, hm93, hdell3⟩, hagain1⟩ := open_pointarg (hval 1 29 v1 rfl rfl) h1
  obtain ⟨z2, rfl, rfl, rfl, hw2⟩ := open_int Tryz.underlying2 (hval 2 2 v2 rfl rfl) h2
  have hz2 := hw2
  simp [Lit.wf, IntKind.min, IntKind.max, IntKind.bits, IntKind.signed] at hz2
  obtain ⟨z3, rfl, rfl, rfl, hw3⟩ := open_int Tryz.underlying2 (hval 3 2 v3 rfl rfl) h3
  have hz3 := hw3
  simp [Lit.wf, IntKind.min, IntKind.max, IntKind.bits, IntKind.signed] at hz3
  have HA0 : n0 ≤ 6 → ∃ ds, Raw W (.slice A0 n0 c0) ds := fun h => raw_of_cells hnc0 hcell0 (by omega)
  have HD0 : m0 ≤ 6 → ∃ ds, Raw W (.slice D0 m0 e0) ds := fun h => raw_of_cells hmc0 hdell0 (by omega)
  have HA1 : n1 ≤ 6 → ∃ ds, Raw W (.slice A1 n1 c1) ds := fun h => raw_of_cells hnc1 hcell1 (by omega)
  have HD1 : m1 ≤ 6 → ∃ ds, Raw W (.slice D1 m1 e1) ds := fun h => raw_of_cells hmc1 hdell1 (by omega)
  have HA2 : n2 ≤ 6 → ∃ ds, Raw W (.slice A2 n2 c2) ds := fun h => raw_of_cells hnc2 hcell2 (by omega)
  have HD2 : m2 ≤ 6 → ∃ ds, Raw W (.slice D2 m2 e2) ds := fun h => raw_of_cells hmc2 hdell2 (by omega)
  have HA3 : n3 ≤ 6 → ∃ ds, Raw W (.slice A3 n3 c3) ds := fun h => raw_of_cells hnc3 hcell3 (by omega)
  have HD3 : m3 ≤ 6 → ∃ ds, Raw W (.slice D3 m3 e3) ds := fun h => raw_of_cells hmc3 hdell3 (by omega)
  clear hA0 hval0
  have htab := tab8_of_laid hL
  simp only [List.append_nil] at hW'
  refine (pointforms_any HA0 HD0 HA1 HD1 HA2 HD2 HA3 HD3 z2 z3 (by omega) (by omega) (by omega) (by omega) htab).mono fun e W' ⟨he, hb⟩ => ?_
  subst he
  exact ⟨_, rfl, post_made (pa := _) (pv := []) hW' (fun _ _ _ => trodAll_mk1 (shut_bool Tryz.underlying4 _)) (fun sp hsp => trodAll_mk4 (hagain0 W' hb sp (fun q hq => hsp q (by simp [hq]))) (hagain1 W' hb sp (fun q hq => hsp q (by simp [hq]))) (shut_int Tryz.underlying2 hw2) (shut_int Tryz.underlying2 hw3)) (fun _ _ => rfl) (by simp) hb⟩

theorem pointForms_holds : Rows.PointFormsSaid :=
  OpenClaim.holds_of_wide 3 Tryz.f3 rfl rfl rfl rfl rfl rfl rfl ⟨rfl, rfl, rfl, rfl, rfl⟩ rfl rfl rfl rfl rfl (by kernel_rfl) Tryz.func3 (by kernel_rfl)
    (of_decide_eq_true (by kernel_rfl)) (by unfold Func.isWrapper; first | (rw [if_pos (by decide +kernel)]; kernel_rfl) | (rw [if_neg (by decide +kernel)]; exact ⟨rfl, rfl⟩))
    (fun os started H enc _ => pointForms_lifted os started H enc)

theorem pointForms_card : Rows.PointFormsCardSaid :=
  Claim7.holds_tied_plain_at .later [] [.data, .data, .data] true _ _
    pointForms_holds (fun _ h => by cases h) (by kernel_rfl) (fun _ h => by cases h) pointForms_row_tie rfl ⟨rfl, rfl⟩ (by kernel_rfl) rfl
    (fun f fn hf hfn => by
      obtain rfl : f = 3 := Option.some.inj ((show Tryz.prog.funcNamed "bspregion/bspregionlaw04.PointForms" = some 3 by kernel_rfl).symm.trans hf) |>.symm
      obtain rfl : fn = Tryz.f3 := (Option.some.inj (Tryz.func3.symm.trans hfn)).symm
      exact ⟨by kernel_rfl, fun j t ht => by
        rw [Tryz.params3] at ht
        have hm : t ∈ [29, 29, 2, 2] := by simpa using Array.mem_of_getElem? ht
        have hall : ([29, 29, 2, 2].all fun u => !Tryz.prog.wantsStandIn u) = true := by kernel_rfl
        exact (show Tryz.prog.wantsStandIn t = false by simpa using List.all_eq_true.1 hall t hm)⟩)
    (by kernel_rfl)
#print axioms pointForms_card
end Go.Proofs.YtlpgbflajcfgpaaGreatDoor
