/-
  PtX, PtZ, PtN in one text.
-/
import Derived.Test.YtancgkmkbgkncaaGreatDoorC1
import Derived.Test.YtancgkmkbgkncaaGreatDoorB1
namespace Go.Proofs.YtancgkmkbgkncaaGreatDoor
open Go.RowKit

section
variable {bs : List Nat} {w : World}
theorem cutC_ok {bs : List Nat} (hb : OkB bs) : (OkB (cutC bs).1 ∧ (cutC bs).1.length ≤ bs.length) ∧ (OkB (cutC bs).2.1 ∧ (cutC bs).2.1.length ≤ bs.length) := by
  induction bs with
  | nil => exact ⟨⟨hb, Nat.le_refl _⟩, hb, Nat.le_refl _⟩
  | cons b t ih =>
    have h := ih (okB_cons.1 hb).2
    rw [cutC_cons]
    split
    · exact ⟨⟨fun _ h => (by cases h), Nat.zero_le _⟩, (okB_cons.1 hb).2, (by show t.length ≤ (b :: t).length; rw [List.length_cons]; omega)⟩
    · refine ⟨⟨okB_cons.2 ⟨(okB_cons.1 hb).1, h.1.1⟩, ?_⟩, h.2.1, ?_⟩
      · simpa using h.1.2
      · have := h.2.2; simp; omega
theorem coord_ok (hb : OkB bs) : (OkB (coordX bs) ∧ (coordX bs).length ≤ bs.length) ∧ (OkB (coordY bs) ∧ (coordY bs).length ≤ bs.length) := by
  have h1 := splitP_ok hb
  have h2 := splitE_ok h1.1
  have h3 := cutC_ok h2.1
  exact ⟨⟨h3.1.1, by have := h3.1.2; unfold coordX; omega⟩, h3.2.1, by have := h3.2.2; unfold coordY; omega⟩
set_option maxRecDepth 100000 in
set_option maxHeartbeats 4000000 in
theorem coord_v (hb : OkB bs) (hl : bs.length ≤ 1000) :
    Calls Tryz.prog 24 #[.string (strB bs)] w fun e w' => e = .returned (.tuple #[.string (strB (coordX bs)), .string (strB (coordY bs)), .bool (coordOk bs)]) ∧ Below w.heap.size w w' := by
  have h1 := splitP_ok hb
  have h2 := splitE_ok h1.1
  have H1 := Lib.hid (fun (W : World) => cutprefP_v hb (by omega) W)
  have H2 := Lib.hid (fun (W : World) => cutsufE_v h1.1 (by omega) W)
  have H3 := Lib.hid (fun (W : World) => cut_bC h2.1 (by omega) W)
  unfold coordX coordY coordOk
  generalize strB (cutC (splitE (splitP bs).2).2).1 = x at H3 ⊢
  generalize strB (cutC (splitE (splitP bs).2).2).2.1 = y at H3 ⊢
  generalize (cutC (splitE (splitP bs).2).2).2.2 = c at H3 ⊢
  generalize strB (splitE (splitP bs).2).2 = u at H2 H3
  generalize (splitE (splitP bs).2).1 = q at H2 ⊢
  generalize strB (splitP bs).2 = v at H1 H2
  generalize (splitP bs).1 = p at H1 ⊢
  generalize strB bs = s at H1 ⊢
  clear h1 h2 hb hl
  cases p <;> cases q <;> cases c <;>
    (go_enter Tryz.func24, Tryz.ntmps24
     go_wp2_with fail
     refine (H1.out _).mono ?_
     rintro e w1 ⟨rfl, rfl⟩
     go_wp2_with fail
     refine (H2.out _).mono ?_
     rintro e w1 ⟨rfl, rfl⟩
     go_wp2_with fail
     refine (H3.out _).mono ?_
     rintro e w2 ⟨rfl, hb⟩
     go_wp2_with fail
     go_returns
     exact ⟨rfl, hb⟩)
end
end Go.Proofs.YtancgkmkbgkncaaGreatDoor
namespace Go.Proofs.YtancgkmkbgkncaaGreatDoor
open Go.RowKit

theorem splitP_true {bs : List Nat} (h : (splitP bs).1 = true) : bs = 40 :: (splitP bs).2 := by
  rcases bs with _ | ⟨b, t⟩
  · cases h
  · rw [splitP_cons] at h ⊢
    split at h
    · rename_i hb; rw [if_pos hb, hb]
    · cases h
theorem splitE_true {bs : List Nat} (h : (splitE bs).1 = true) : bs = (splitE bs).2 ++ [41] := by
  rcases snoc_cases bs with rfl | ⟨t, b, rfl⟩
  · cases h
  · rw [splitE_snoc] at h ⊢
    split at h
    · rename_i hb; rw [if_pos hb, hb]
    · cases h
theorem coord_form {bs : List Nat} (h : coordOk bs = true) : bs = 40 :: (coordX bs ++ 44 :: (coordY bs ++ [41])) ∧ 44 ∉ coordX bs := by
  unfold coordOk at h
  rw [Bool.and_eq_true, Bool.and_eq_true] at h
  have h1 := splitP_true h.1.1
  have h2 := splitE_true h.1.2
  have h3 := cutC_hit h.2
  refine ⟨?_, h3.2⟩
  have h4 : bs = 40 :: ((splitE (splitP bs).2).2 ++ [41]) := by rw [← h2]; exact h1
  have h5 : (splitE (splitP bs).2).2 = coordX bs ++ 44 :: coordY bs := h3.1
  rw [h5] at h4
  rw [List.append_assoc, List.cons_append] at h4
  exact h4
theorem cutC_at2 {l : List Nat} (m : List Nat) (h : 44 ∉ l) : cutC (l ++ 44 :: m) = (l, m, true) := by
  induction l with
  | nil => rw [List.nil_append, cutC_cons, if_pos rfl]
  | cons b t ih =>
    rw [List.mem_cons, not_or] at h
    rw [List.cons_append, cutC_cons, if_neg (fun h1 => h.1 h1.symm), ih h.2]
theorem form_coord {x y : List Nat} (h : 44 ∉ x) : coordX (40 :: (x ++ 44 :: (y ++ [41]))) = x ∧ coordY (40 :: (x ++ 44 :: (y ++ [41]))) = y ∧ coordOk (40 :: (x ++ 44 :: (y ++ [41]))) = true := by
  have h1 : splitP (40 :: (x ++ 44 :: (y ++ [41]))) = (true, (x ++ 44 :: y) ++ [41]) := by rw [splitP_cons, if_pos rfl]; simp
  have h2 : splitE ((x ++ 44 :: y) ++ [41]) = (true, x ++ 44 :: y) := by rw [splitE_snoc, if_pos rfl]
  have h3 := cutC_at2 y h
  unfold coordX coordY coordOk
  rw [h1]
  simp only [h2, h3]
  simp
theorem law_form {bs : List Nat} (h0 : bs.getD 0 0 = 40) (hl : bs.getD (bs.length - 1) 0 = 41) (hc : 44 ∈ bs) : coordOk bs = true := by
  rcases bs with _ | ⟨b, t⟩
  · cases hc
  · have hb : b = 40 := h0
    subst hb
    rcases snoc_cases t with rfl | ⟨m, c, rfl⟩
    · simp at hc
    · have hc' : c = 41 := by simpa [List.getD_eq_getElem?_getD] using hl
      subst hc'
      have hm : 44 ∈ m := by simpa using hc
      have hf : (cutC m).2.2 = true := by
        rcases hq : (cutC m).2.2 with _ | _
        · exact absurd hm (cutC_miss hq).2.2
        · rfl
      have h3 := cutC_hit hf
      have h4 := form_coord (x := (cutC m).1) (y := (cutC m).2.1) h3.2
      have h5 : 40 :: (m ++ [41]) = 40 :: ((cutC m).1 ++ 44 :: ((cutC m).2.1 ++ [41])) := by
        have h6 : m ++ [41] = ((cutC m).1 ++ 44 :: (cutC m).2.1) ++ [41] := by rw [← h3.1]
        rw [h6]; simp
      rw [h5]; exact h4.2.2
end Go.Proofs.YtancgkmkbgkncaaGreatDoor
namespace Go.Proofs.YtancgkmkbgkncaaGreatDoor
open Go.RowKit

/-- The place of the first comma among the first k bytes, or -1. -/
def commaTo (bs : List Nat) : Nat → Int
  | 0 => -1
  | k + 1 => if bs.getD k 0 = 44 ∧ commaTo bs k < 0 then (k : Int) else commaTo bs k
theorem comma_hit {bs : List Nat} {k : Nat} (h : bs.getD k 0 = 44) (h' : commaTo bs k < 0) : commaTo bs (k + 1) = (k : Int) := if_pos ⟨h, h'⟩
theorem comma_keep {bs : List Nat} {k : Nat} (h : ¬ (bs.getD k 0 = 44 ∧ commaTo bs k < 0)) : commaTo bs (k + 1) = commaTo bs k := if_neg h
theorem comma_none {bs : List Nat} {k : Nat} (h : ∀ j, j < k → bs.getD j 0 ≠ 44) : commaTo bs k = -1 := by
  induction k with
  | zero => rfl
  | succ k ih => rw [comma_keep (fun hh => h k (Nat.lt_succ_self _) hh.1)]; exact ih (fun j hj => h j (by omega))
theorem comma_at {bs : List Nat} {n : Nat} (hn : bs.getD n 0 = 44) (h : ∀ j, j < n → bs.getD j 0 ≠ 44) (k : Nat) : commaTo bs (n + 1 + k) = (n : Int) := by
  induction k with
  | zero => exact comma_hit hn (by rw [comma_none h]; decide)
  | succ k ih => rw [show n + 1 + (k + 1) = (n + 1 + k) + 1 by omega, comma_keep (fun hh => by have := hh.2; rw [ih] at this; omega)]; exact ih
theorem getD_append_mid (x : List Nat) (b : Nat) (y : List Nat) : (x ++ b :: y).getD x.length 0 = b := by simp [List.getD_eq_getElem?_getD]
theorem getD_mem {bs : List Nat} {j : Nat} (h : j < bs.length) : bs.getD j 0 ∈ bs := by
  rw [List.getD_eq_getElem?_getD, List.getElem?_eq_getElem h, Option.getD_some]; exact List.getElem_mem h
theorem comma_out {bs : List Nat} (h : 44 ∉ bs) : commaTo bs bs.length = -1 :=
  comma_none (fun j hj hh => h (by have := getD_mem hj; rwa [hh] at this))
theorem comma_in {x y : List Nat} (h : 44 ∉ x) : commaTo (x ++ 44 :: y) (x ++ 44 :: y).length = (x.length : Int) := by
  have h1 : ∀ j, j < x.length → (x ++ 44 :: y).getD j 0 ≠ 44 := fun j hj hh => h (by
    have h2 : (x ++ 44 :: y).getD j 0 = x.getD j 0 := by simp [List.getD_eq_getElem?_getD, List.getElem?_append_left hj]
    rw [h2] at hh
    have := getD_mem hj
    rwa [hh] at this)
  have := comma_at (getD_append_mid x 44 y) h1 y.length
  rwa [show (x ++ 44 :: y).length = x.length + 1 + y.length by simp; omega]
theorem form_facts {bs : List Nat} (h : coordOk bs = true) : bs.length = (coordX bs).length + (coordY bs).length + 3 ∧ bs.getD 0 0 = 40 ∧ bs.getD (bs.length - 1) 0 = 41 ∧ commaTo bs bs.length = ((coordX bs).length : Int) + 1 ∧ (strB bs).extract 1 ((coordX bs).length + 1) = strB (coordX bs) ∧ (strB bs).extract ((coordX bs).length + 2) (bs.length - 1) = strB (coordY bs) := by
  obtain ⟨he, hx⟩ := coord_form h
  generalize coordX bs = x at *
  generalize coordY bs = y at *
  clear h
  subst he
  have hl : (40 :: (x ++ 44 :: (y ++ [41]))).length = x.length + y.length + 3 := by simp; omega
  refine ⟨hl, rfl, ?_, ?_, ?_, ?_⟩
  · rw [hl, show x.length + y.length + 3 - 1 = (40 :: (x ++ 44 :: y)).length by simp; omega]
    have := getD_append_mid (40 :: (x ++ 44 :: y)) 41 []
    rw [show 40 :: (x ++ 44 :: (y ++ [41])) = (40 :: (x ++ 44 :: y)) ++ 41 :: [] by simp]
    exact this
  · have := comma_in (x := 40 :: x) (y := y ++ [41]) (by simp [hx])
    simpa using this
  · have h1 := strB_extract (40 :: x) 1
    have h2 := strB_first (40 :: x) (44 :: (y ++ [41]))
    apply ByteArray.ext
    apply Array.toList_inj.1
    rw [Lib.extract_data]
    simp [strB]
  · apply ByteArray.ext
    apply Array.toList_inj.1
    rw [Lib.extract_data, hl]
    have h4 : List.drop (x.length + 2) (40 :: (x ++ 44 :: (y ++ [41]))) = y ++ [41] := by
      have : 40 :: (x ++ 44 :: (y ++ [41])) = (40 :: (x ++ [44])) ++ (y ++ [41]) := by simp
      rw [this, List.drop_append_of_le_length (by simp), List.drop_of_length_le (by simp)]; rfl
    simp only [strB, List.toList_toArray, ← List.map_take, ← List.map_drop, h4]
    rw [show x.length + y.length + 3 - 1 - (x.length + 2) = y.length by omega, List.take_append_of_le_length (Nat.le_refl _), List.take_of_length_le (Nat.le_refl _)]
theorem form_not {bs : List Nat} (h : coordOk bs = false) (h0 : bs.getD 0 0 = 40) (hl : bs.getD (bs.length - 1) 0 = 41) : commaTo bs bs.length = -1 :=
  comma_out (fun hc => by rw [law_form h0 hl hc] at h; cases h)
end Go.Proofs.YtancgkmkbgkncaaGreatDoor
