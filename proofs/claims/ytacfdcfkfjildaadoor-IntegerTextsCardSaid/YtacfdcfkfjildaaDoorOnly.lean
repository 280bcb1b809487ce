/-
  The contract of onlyDigits; strings as lists of bytes.
-/
import Derived.Test.YtacfdcfkfjildaaDoorFormat
import Derived.WalkSpells
import Derived.Lib.Strings
import Derived.LoopN
namespace Go.Proofs.YtacfdcfkfjildaaDoor
open Go.RowKit

theorem strB_size (bs : List Nat) : (strB bs).size = bs.length := by simp [strB, ByteArray.size]
theorem strB_at {bs : List Nat} (hb : OkB bs) {k : Nat} (h : k < (strB bs).size) : ((strB bs)[k]'h).toNat = bs.getD k 0 := by
  have hk : k < bs.length := by rw [← strB_size]; exact h
  have h1 : ((strB bs)[k]'h) = UInt8.ofNat (bs[k]) := by
    simp [strB, ByteArray.getElem_eq_getElem_data]
  rw [h1, List.getD_eq_getElem?_getD, List.getElem?_eq_getElem hk]
  simp only [Option.getD_some]
  have := okB_get hb hk
  simp [Nat.mod_eq_of_lt this]
theorem strB_list (bs : List Nat) : (strB bs).toList = bs.map UInt8.ofNat := by
  rw [Lib.toList_data]; simp [strB]
/-- A decimal digit. -/
def Dig (b : Nat) : Prop := 48 ≤ b ∧ b ≤ 57
theorem first_bad {bs : List Nat} (h : ¬ ∀ b ∈ bs, Dig b) : ∃ j, j < bs.length ∧ ¬ Dig (bs.getD j 0) ∧ ∀ i, i < j → Dig (bs.getD i 0) := by
  induction bs with
  | nil => exact absurd (fun _ h => by cases h) h
  | cons b bs ih =>
    rcases Classical.em (Dig b) with hb | hb
    · have h2 : ¬ ∀ b ∈ bs, Dig b := fun h3 => h (fun x hx => by
        rcases List.mem_cons.1 hx with rfl | hx
        · exact hb
        · exact h3 x hx)
      obtain ⟨j, h3, h4, h5⟩ := ih h2
      refine ⟨j + 1, by simpa using h3, by simpa using h4, fun i hi => ?_⟩
      rcases i with _ | i
      · simpa using hb
      · have := h5 i (by omega); simpa using this
    · exact ⟨0, by simp, by simpa using hb, fun i hi => by omega⟩

section
variable {bs : List Nat} {w : World}
set_option maxRecDepth 100000 in
theorem only_yes (hb : OkB bs) (hl : bs.length ≤ 1000000000) (hd : ∀ b ∈ bs, Dig b) (hne : bs ≠ []) :
    Calls Tryd.prog 100 #[.string (strB bs)] w fun e w' => e = .returned (.bool true) ∧ w = w' := by
  have hsz := strB_size bs
  have hat := fun k (h : k < (strB bs).size) => strB_at hb h
  have hpos : 0 < bs.length := List.length_pos_iff.2 hne
  have hemp : (!(strB bs).toList.isEmpty) = true := by
    rw [strB_list]
    cases bs with
    | nil => exact absurd rfl hne
    | cons b bs => rfl
  have HE := Lib.hid hemp
  clear hemp
  have HAT := Lib.hid hat
  have HD := Lib.hid hd
  clear hat hd hne
  generalize hsb : strB bs = s at *
  clear hsb
  go_enter Tryd.func100, Tryd.ntmps100
  go_wp2_with fail
  go_loop [6] (fun i => ∃ k : Nat, i = .int .i64 k ∧ k ≤ bs.length) (fun i => bs.length - (intOf i).toNat)
  case atStart => exact ⟨0, rfl, Nat.zero_le _⟩
  case round =>
    obtain ⟨k, rfl, hk⟩ := hrel
    rcases Nat.lt_or_ge k bs.length with hlt | hge
    · have hlt2 : (k : Int) < (bs.length : Int) := by omega
      obtain ⟨d, hdd⟩ : ∃ d, bs.getD k 0 = d := ⟨_, rfl⟩
      have hdg : Dig d := by
        rw [← hdd, List.getD_eq_getElem?_getD, List.getElem?_eq_getElem hlt]; exact HD.out _ (List.getElem_mem hlt)
      have hix : ∀ h : k < s.size, (s[k]'h).toNat = d := fun h => by rw [HAT.out k h]; exact hdd
      obtain ⟨h1, h2⟩ := hdg
      have h3 : ¬ (d : Int) < 48 := by omega
      have h4 : ¬ (57 : Int) < (d : Int) := by omega
      have h5 : ¬ d < 48 := by omega
      have h6 : ¬ 57 < d := by omega
      clear hdd
      go_wp2_with fail
      go_round
      case rel => exact ⟨k + 1, by go_num, by omega⟩
      case measure => simp [intOf]; omega
    · obtain rfl : k = bs.length := by omega
      go_wp2_with fail
      go_ret
      exact ⟨by rw [← HE.out]; rfl, rfl⟩
set_option maxRecDepth 100000 in
theorem only_bad (hb : OkB bs) (hl : bs.length ≤ 1000000000) {j : Nat} (hj : j < bs.length) (hbad : ¬ Dig (bs.getD j 0)) (hgood : ∀ i, i < j → Dig (bs.getD i 0)) :
    Calls Tryd.prog 100 #[.string (strB bs)] w fun e w' => e = .returned (.bool false) ∧ w = w' := by
  have hsz := strB_size bs
  have hat := fun k (h : k < (strB bs).size) => strB_at hb h
  have HAT := Lib.hid hat
  have HD := Lib.hid hgood
  have HB := Lib.hid hbad
  clear hat hgood hbad
  generalize hsb : strB bs = s at *
  clear hsb
  go_enter Tryd.func100, Tryd.ntmps100
  go_wp2_with fail
  go_loop [6] (fun i => ∃ k : Nat, i = .int .i64 k ∧ k ≤ j) (fun i => bs.length - (intOf i).toNat)
  case atStart => exact ⟨0, rfl, Nat.zero_le _⟩
  case round =>
    obtain ⟨k, rfl, hk⟩ := hrel
    have hlt : k < bs.length := by omega
    have hlt2 : (k : Int) < (bs.length : Int) := by omega
    obtain ⟨d, hdd⟩ : ∃ d, bs.getD k 0 = d := ⟨_, rfl⟩
    have hix : ∀ h : k < s.size, (s[k]'h).toNat = d := fun h => by rw [HAT.out k h]; exact hdd
    rcases Nat.lt_or_ge k j with hkj | hkj
    · obtain ⟨h1, h2⟩ : Dig d := by rw [← hdd]; exact HD.out k hkj
      have h3 : ¬ (d : Int) < 48 := by omega
      have h4 : ¬ (57 : Int) < (d : Int) := by omega
      have h5 : ¬ d < 48 := by omega
      have h6 : ¬ 57 < d := by omega
      clear hdd
      go_wp2_with fail
      go_round
      case rel => exact ⟨k + 1, by go_num, by omega⟩
      case measure => simp [intOf]; omega
    · obtain rfl : k = j := by omega
      have hnd : ¬ Dig d := by rw [← hdd]; exact HB.out
      clear hdd
      rcases Nat.lt_or_ge d 48 with h5 | h5
      · have h3 : (d : Int) < 48 := by omega
        go_wp2_with fail
        go_ret
        exact ⟨rfl, rfl⟩
      · have h6 : 57 < d := by
          rcases Nat.lt_or_ge 57 d with h | h
          · exact h
          · exact absurd ⟨h5, h⟩ hnd
        have h3 : ¬ (d : Int) < 48 := by omega
        have h4 : (57 : Int) < (d : Int) := by omega
        have h7 : ¬ d < 48 := by omega
        go_wp2_with fail
        go_ret
        exact ⟨rfl, rfl⟩
set_option maxRecDepth 100000 in
theorem only_none : Calls Tryd.prog 100 #[.string (strB [])] w fun e w' => e = .returned (.bool false) ∧ w = w' := by
  have hsz := strB_size []
  have hs : strB [] = ⟨#[]⟩ := rfl
  rw [hs] at hsz ⊢
  go_enter Tryd.func100, Tryd.ntmps100
  go_wp2_with fail
  refine wp_loop_rounds 1 ?_
  rw [rounds_succ]
  go_wp2_with fail
  go_ret
  exact ⟨rfl, rfl⟩
theorem only_no (hb : OkB bs) (hl : bs.length ≤ 1000000000) (h : ¬ ((∀ b ∈ bs, Dig b) ∧ bs ≠ [])) :
    Calls Tryd.prog 100 #[.string (strB bs)] w fun e w' => e = .returned (.bool false) ∧ w = w' := by
  rcases Classical.em (bs = []) with rfl | hne
  · exact only_none
  · obtain ⟨j, h1, h2, h3⟩ := first_bad (bs := bs) (fun h4 => h ⟨h4, hne⟩)
    exact only_bad hb hl h1 h2 h3
end
end Go.Proofs.YtacfdcfkfjildaaDoor
