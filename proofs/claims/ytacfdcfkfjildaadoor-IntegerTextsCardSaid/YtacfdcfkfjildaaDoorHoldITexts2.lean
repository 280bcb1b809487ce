/-
  Laid6, Raws, HoldITexts in one text.
-/
import Derived.Test.YtacfdcfkfjildaaDoorLaid5
import Derived.Test.YtacfdcfkfjildaaDoorOnly
import Derived.Lib.LaidTab
import Derived.Lib.ItoaNum
import Derived.ChangeMaps5
import Derived.Test.YtacfdcfkfjildaaDoorWords
import Derived.Test.YtacfdcfkfjildaaDoorBigB
namespace Go.Proofs.YtacfdcfkfjildaaDoor
open Go.ChangeShapes Go.WideShapes Go.ChangeAt Go.WideMaps Go.WideElems Go.RowKit

theorem Tryd.gP : Tryd.prog.globalNamed "internal/strconv.uint64pow10" = some 3 := by kernel_rfl
theorem Tryd.gPType : (Tryd.prog.globals[3]?).map (·.type) = some 168 := by kernel_rfl
theorem Tryd.arrP : Tryd.prog.underlying 168 = some (.array 20 61) := by kernel_rfl
theorem Tryd.cellsP1 : Tryd.prog.cellsOf 61 = 1 := by kernel_rfl
theorem Tryd.cellsP : Tryd.prog.cellsOf 168 = 20 := by kernel_rfl
theorem pow_data : (Rows.laid_internal_strconv_uint64pow10 : DataW Unit) = Lib.tabData .u64 Lib.pow10Tab := by kernel_rfl
theorem tab_of_laid {W : World} (h : laidMetH Tryd.prog laid5 W) : Lib.TabIs Tryd.prog W "internal/strconv.uint64pow10" .u64 Lib.pow10Tab := by
  rw [MakeChecks.laidMetH_plain _ _ _ (by kernel_rfl)] at h
  have h1 : laidMet Tryd.prog [("internal/strconv.uint64pow10", Rows.laid_internal_strconv_uint64pow10), ("bspregion/api.ErrSyntax", Rows.laid_bspregion_api_ErrSyntax), ("bspregion/api.ErrLimit", Rows.laid_bspregion_api_ErrLimit)] W := h.tail.tail
  rw [pow_data] at h1
  exact Lib.tabIs_of_head Tryd.gP Tryd.gPType Tryd.arrP Tryd.underlying61 Tryd.cellsP1 Tryd.cellsP h1
theorem str_bytes (s : ByteArray) : ∃ bs, OkB bs ∧ s = strB bs ∧ bs.length = s.size := by
  refine ⟨s.data.toList.map UInt8.toNat, ?_, ?_, by rw [List.length_map, Array.length_toList]; rfl⟩
  · intro b hb
    obtain ⟨u, _, rfl⟩ := List.mem_map.1 hb
    exact u.toNat_lt
  · apply ByteArray.ext
    apply Array.toList_inj.1
    have h : UInt8.ofNat ∘ UInt8.toNat = id := by funext u; simp
    simp [strB, h]
end Go.Proofs.YtacfdcfkfjildaaDoor
namespace Go.Proofs.YtacfdcfkfjildaaDoor
open Go.RowKit

theorem wf_u64 {z : Int} (h : (Lit.int .u64 z).wf = true) : ∃ u : Nat, z = (u : Int) ∧ u < 18446744073709551616 := by
  simp [Lit.wf, IntKind.min, IntKind.max, IntKind.bits, IntKind.signed] at h
  exact ⟨z.toNat, by omega, by omega⟩
theorem wf_u32 {z : Int} (h : (Lit.int .u32 z).wf = true) : ∃ u : Nat, z = (u : Int) ∧ u < 4294967296 := by
  simp [Lit.wf, IntKind.min, IntKind.max, IntKind.bits, IntKind.signed] at h
  exact ⟨z.toNat, by omega, by omega⟩
theorem wf_u8 {z : Int} (h : (Lit.int .u8 z).wf = true) : ∃ u : Nat, z = (u : Int) ∧ u < 256 := by
  simp [Lit.wf, IntKind.min, IntKind.max, IntKind.bits, IntKind.signed] at h
  exact ⟨z.toNat, by omega, by omega⟩
theorem raw_of_cells {W : World} {A : Option Addr} {n c : Nat} (hnc : n ≤ c) (hcell : ∀ j, j < n → ∃ ad z, A = some ad ∧ ad.block < W.heap.size ∧ W.cell? (ad.add j) = some (.int .u32 z) ∧ (Lit.int .u32 z).wf = true) (hn : n ≤ 1000000000) : ∃ ds, Raw W (.slice A n c) ds := by
  have key : ∀ k, k ≤ n → ∃ ds : List Nat, ds.length = k ∧ OkD ds ∧ ∀ j, j < k → ∃ ad, A = some ad ∧ ad.block < W.heap.size ∧ W.cell? (ad.add j) = some (.int .u32 (ds.getD j 0 : Nat)) := by
    intro k
    induction k with
    | zero => intro _; exact ⟨[], rfl, okD_nil, fun j hj => by omega⟩
    | succ k ih =>
      intro hk
      obtain ⟨ds, h1, h2, h3⟩ := ih (by omega)
      obtain ⟨ad, z, e1, e2, e3, e4⟩ := hcell k (by omega)
      obtain ⟨u, rfl, hu⟩ := wf_u32 e4
      refine ⟨ds ++ [u], by simp [h1], okD_append.2 ⟨h2, okD_cons.2 ⟨hu, okD_nil⟩⟩, fun j hj => ?_⟩
      rcases Nat.lt_or_ge j k with hlt | hge
      · obtain ⟨ad', f1, f2, f3⟩ := h3 j hlt
        refine ⟨ad', f1, f2, f3.trans ?_⟩
        rw [List.getD_eq_getElem?_getD, List.getD_eq_getElem?_getD, List.getElem?_append_left (by omega)]
      · obtain rfl : j = k := by omega
        refine ⟨ad, e1, e2, e3.trans ?_⟩
        rw [List.getD_eq_getElem?_getD, List.getElem?_append_right (by omega), h1]
        simp
  obtain ⟨ds, h1, h2, h3⟩ := key n (Nat.le_refl n)
  exact ⟨ds, h2, by omega, A, c, by rw [h1], by omega, fun j hj => h3 j (by omega)⟩
end Go.Proofs.YtacfdcfkfjildaaDoor
namespace Go.Proofs.YtacfdcfkfjildaaDoor
open Go.ChangeShapes Go.WideShapes Go.ChangeAt Go.WideMaps Go.WideElems Go.RowKit

set_option maxRecDepth 100000 in
theorem integerTexts_lifted (os : Os) (started : os.Started) (H : Type) (enc : TypeId × Value → H) :
    ReturnsInHanded {} Tryd.checked os 13 .any (fun w args => (Rows.integerTextsSpec.pre enc Tryd.prog Tryd.f13 [] false w args ∧ laidMetH Tryd.prog laid5 w) ∧ sizedMet enc Tryd.prog Tryd.f13 (OpenSpec.ofChange Rows.integerTextsSpec) false w args)
      (Rows.integerTextsSpec.post enc Tryd.prog Tryd.f13 false true false false) := by
  refine returnsInHanded_of_change_and (C := Tryd.checked) (X := fun w _ => laidMetH Tryd.prog laid5 w) (fun _ _ _ hh h => h.of_heap hh) own started (by kernel_rfl) Tryd.func13
    (ChangeSpec.witness_shaped (enc := enc) (C := Tryd.checked) (os := os) (X := fun w _ => laidMetH Tryd.prog laid5 w) false (World.doorLaid Tryd.prog 400 os) #[.string ⟨#[]⟩, .slice none 0 0] 8 rfl (World.shaped_of_RefB (by kernel_rfl) (by kernel_rfl)) (by kernel_rfl) (by kernel_rfl) (by kernel_rfl) (door5_met os _)) ?_
  intro W base args ds gs before hval0 hW _ _ hL _
  have hval : ∀ (j : Nat) t v, Tryd.f13.params[j]? = some t → args[j]? = some v → Value.okWide Tryd.prog W .any base t v := hval0
  have hW' := hW
  obtain ⟨p, q, hA0, hV, rfl, _, _⟩ := hW
  have hA : DataW.TrodAll enc Tryd.prog W 0 (fun _ => true) true Tryd.f13.params.toList args.toList ds p := hA0
  rw [Tryd.params13] at hA hval
  obtain ⟨v0, v1, d0, d1, p0, p1, rfl, rfl, rfl, h0, h1⟩ := trodAll_two hA
  obtain ⟨rfl, rfl⟩ := trodVars_none hV
  clear hA0 hval0
  obtain ⟨a0, a1, hS, hL2⟩ := sents_of_laid hL
  obtain ⟨s0, rfl, rfl, rfl, hs0⟩ := Go.ChangeMaps.open_string Tryd.underlying9 (hval 0 9 v0 rfl rfl) h0
  obtain ⟨bs, hbs, hse, hbl⟩ := str_bytes s0
  have htab := tab_of_laid hL
  obtain ⟨A1, n1, c1, rfl⟩ := okWide_slice Tryd.underlying40 (hval 1 40 v1 rfl rfl)
  obtain ⟨⟨hnc1, hn91, hcell1⟩, hagain1⟩ := open_row Tryd.underlying40 Tryd.underlying3 Tryd.cells_int h1
  have HI : Ints W (.slice A1 n1 c1) := ⟨A1, n1, c1, rfl, hnc1, hn91, fun j hj => by
    obtain ⟨ad, z, e1, e2, e3, _⟩ := hcell1 j hj
    exact ⟨ad, z, e1, e2, e3⟩⟩
  simp only [List.append_nil] at hW'
  refine ((by rw [hse]; exact integertexts_any hbs HI hS htab : Calls Tryd.prog 13 #[.string s0, .slice A1 n1 c1] W fun e w' => e = .returned (.bool true) ∧ Below W.heap.size W w')).mono fun e W' ⟨he, hb⟩ => ?_
  subst he
  exact ⟨_, rfl, post_made (pa := _) (pv := []) hW' (fun _ _ _ => trodAll_mk1 (shut_bool Tryd.underlying4 _)) (fun sp hsp => trodAll_mk2 (Go.ChangeMaps.shut_string Tryd.underlying9 hs0) (hagain1 W' hb sp (fun q hq => hsp q (by simp [hq])))) (fun _ _ => rfl) (by simp) hb⟩

theorem integerTexts_holds : Rows.IntegerTextsSaid :=
  OpenClaim.holds_of_wide 13 Tryd.f13 rfl rfl rfl rfl rfl rfl rfl ⟨rfl, rfl, rfl, rfl, rfl⟩ rfl rfl rfl rfl rfl (by kernel_rfl) Tryd.func13 (by kernel_rfl)
    (of_decide_eq_true (by kernel_rfl)) (by unfold Func.isWrapper; first | (rw [if_pos (by decide +kernel)]; kernel_rfl) | (rw [if_neg (by decide +kernel)]; exact ⟨rfl, rfl⟩))
    (fun os started H enc _ => integerTexts_lifted os started H enc)

theorem integerTexts_card : Rows.IntegerTextsCardSaid :=
  Claim7.holds_tied_plain_at .later [] [.data, .data, .data, .sentinel, .sentinel] true _ true
    integerTexts_holds (fun _ h => by cases h) (by kernel_rfl) (fun _ h => by cases h) integerTexts_row_tie rfl ⟨rfl, rfl⟩ (by kernel_rfl) rfl
    (fun f fn hf hfn => by
      obtain rfl : f = 13 := Option.some.inj ((show Tryd.prog.funcNamed "bspregion/bspregionlaw02.IntegerTexts" = some 13 by kernel_rfl).symm.trans hf) |>.symm
      obtain rfl : fn = Tryd.f13 := (Option.some.inj (Tryd.func13.symm.trans hfn)).symm
      exact ⟨by kernel_rfl, fun j t ht => by
        rw [Tryd.params13] at ht
        have hm : t ∈ [9, 40] := by simpa using Array.mem_of_getElem? ht
        have hall : ([9, 40].all fun u => !Tryd.prog.wantsStandIn u) = true := by kernel_rfl
        exact (show Tryd.prog.wantsStandIn t = false by simpa using List.all_eq_true.1 hall t hm)⟩)
    (by kernel_rfl)
#print axioms integerTexts_card
end Go.Proofs.YtacfdcfkfjildaaDoor
