/-
  CutC, Pre2 in one text.
-/
import Derived.Test.YtancgkmkbgkncaaGreatDoorCut
import Derived.Test.YtancgkmkbgkncaaGreatDoorK10
namespace Go.Proofs.YtancgkmkbgkncaaGreatDoor
open Go.Shelf Go.RowKit Go.Lib

/-- The text before the first slash, the text behind it, and whether there is one. -/
def cutC : List Nat → List Nat × List Nat × Bool
  | [] => ([], [], false)
  | b :: t => if b = 44 then ([], t, true) else (b :: (cutC t).1, (cutC t).2.1, (cutC t).2.2)
theorem cutC_cons (b : Nat) (t : List Nat) : cutC (b :: t) = if b = 44 then ([], t, true) else (b :: (cutC t).1, (cutC t).2.1, (cutC t).2.2) := rfl
theorem cutC_miss {bs : List Nat} (h : (cutC bs).2.2 = false) : (cutC bs).1 = bs ∧ (cutC bs).2.1 = [] ∧ 44 ∉ bs := by
  induction bs with
  | nil => exact ⟨rfl, rfl, by simp⟩
  | cons b t ih =>
    rw [cutC_cons] at h ⊢
    by_cases hb : b = 44
    · rw [if_pos hb] at h; cases h
    · rw [if_neg hb] at h ⊢
      obtain ⟨h1, h2, h3⟩ := ih h
      refine ⟨by rw [h1], h2, ?_⟩
      rw [List.mem_cons]
      rintro (h | h)
      · exact hb h.symm
      · exact h3 h
theorem cutC_hit {bs : List Nat} (h : (cutC bs).2.2 = true) : bs = (cutC bs).1 ++ 44 :: (cutC bs).2.1 ∧ 44 ∉ (cutC bs).1 := by
  induction bs with
  | nil => cases h
  | cons b t ih =>
    rw [cutC_cons] at h ⊢
    by_cases hb : b = 44
    · rw [if_pos hb]; subst hb; exact ⟨rfl, by simp⟩
    · rw [if_neg hb] at h ⊢
      obtain ⟨h1, h2⟩ := ih h
      refine ⟨congrArg (b :: ·) h1, ?_⟩
      rw [List.mem_cons]
      rintro (h | h)
      · exact hb h.symm
      · exact h2 h
theorem byte44 {b : Nat} (h : b < 256) (hb : b ≠ 44) : (UInt8.ofNat b == 44) = false := by
  rw [beq_eq_false_iff_ne]
  intro h1
  have h2 := congrArg UInt8.toNat h1
  rw [UInt8.toNat_ofNat_of_lt' (show b < UInt8.size from h)] at h2
  exact hb h2
theorem index_missC {bs : List Nat} (hb : OkB bs) (h : 44 ∉ bs) : Lib.indexByte (bs.map UInt8.ofNat) 44 = -1 := by
  induction bs with
  | nil => rfl
  | cons b t ih =>
    rw [List.mem_cons] at h
    have h1 := (okB_cons.1 hb)
    rw [List.map_cons, Lib.indexByte, byte44 h1.1 (fun e => h (.inl e.symm)), ih h1.2 (fun e => h (.inr e))]
    rfl
theorem index_hitC {xs ds : List Nat} (hb : OkB xs) (h : 44 ∉ xs) : Lib.indexByte ((xs ++ 44 :: ds).map UInt8.ofNat) 44 = (xs.length : Int) := by
  induction xs with
  | nil => rfl
  | cons b t ih =>
    rw [List.mem_cons] at h
    have h1 := (okB_cons.1 hb)
    rw [List.cons_append, List.map_cons, Lib.indexByte, byte44 h1.1 (fun e => h (.inl e.symm)), ih h1.2 (fun e => h (.inr e)), List.length_cons]
    have h2 : ((t.length : Int) == -1) = false := by rw [beq_eq_false_iff_ne]; omega
    rw [h2]
    simp
theorem strB_lastC (xs ds : List Nat) : (strB (xs ++ 44 :: ds)).extract (xs.length + 1) (xs.length + 1 + ds.length) = strB ds := by
  have h := strB_extract (xs ++ 44 :: ds) (xs.length + 1)
  rw [List.length_append, List.length_cons, show xs.length + (ds.length + 1) = xs.length + 1 + ds.length by omega] at h
  rw [h]
  congr 1
  rw [List.drop_append]
  simp
set_option maxRecDepth 100000 in
theorem cutl_vC {bs : List Nat} (hb : OkB bs) (hl : bs.length ≤ 1000000) (w : World) :
    Calls Tryz.prog 79 #[.string (strB bs), .string ⟨#[44]⟩] w fun e w' => e = .returned (.tuple #[.string (strB (cutC bs).1), .string (strB (cutC bs).2.1), .bool (cutC bs).2.2]) ∧ ∃ n, w' = w.drewN n := by
  have hI := Any.stringslite_Index_one Tryz.lays219 (strB bs) 44 w
  rw [strB_data] at hI
  cases hc : (cutC bs).2.2
  · obtain ⟨h1, h2, h3⟩ := cutC_miss hc
    rw [index_missC hb h3] at hI
    rw [h1, h2]
    have HI := Lib.hid hI
    obtain ⟨s, hs⟩ : ∃ s, strB bs = s := ⟨_, rfl⟩
    rw [hs] at HI ⊢
    have hs0 : strB [] = ⟨#[]⟩ := rfl
    rw [hs0]
    clear hI hb hl hc h1 h2 h3 hs
    go_enter Tryz.func79, Tryz.ntmps79
    go_wp2_with fail
    refine HI.out.mono ?_
    rintro e w' ⟨rfl, rfl⟩
    go_wp2_with fail
    go_ret3
    exact ⟨rfl, 0, rfl⟩
  · obtain ⟨h1, h2⟩ := cutC_hit hc
    have hbA : OkB (cutC bs).1 := by rw [h1] at hb; exact (okB_append.1 hb).1
    have hsz := strB_size bs
    generalize (cutC bs).1 = xs at *
    generalize (cutC bs).2.1 = ds at *
    subst h1
    rw [index_hitC hbA h2] at hI
    have hf := strB_first xs (44 :: ds)
    have hg := strB_lastC xs ds
    rw [List.length_append, List.length_cons] at hsz hl
    have hsz2 : (strB (xs ++ 44 :: ds)).size = xs.length + 1 + ds.length := by omega
    have HI := Lib.hid hI
    obtain ⟨s, hs⟩ : ∃ s, strB (xs ++ 44 :: ds) = s := ⟨_, rfl⟩
    rw [hs] at HI hf hg hsz2 ⊢
    clear hI hb hc hs hbA h2 hsz
    generalize hn : xs.length = n at *
    generalize hm : ds.length = m at *
    have i1 : (0 : Int) ≤ (n : Int) := by omega
    have i2 : (n : Int) ≤ (n : Int) + 1 + (m : Int) := by omega
    have i3 : (n : Int) + 1 ≤ (n : Int) + 1 + (m : Int) := by omega
    have i4 : (0 : Int) ≤ (n : Int) + 1 := by omega
    have i5 : IntKind.i64.wrap ((n : Int) + 1) = (n : Int) + 1 := by simp [IntKind.wrap, IntKind.bits, IntKind.signed]; omega
    go_enter Tryz.func79, Tryz.ntmps79
    go_wp2_with fail
    refine HI.out.mono ?_
    rintro e w' ⟨rfl, rfl⟩
    go_wp2_with fail
    go_region
    go_wp2_with fail
    go_ret3
    exact ⟨rfl, 1, rfl⟩
set_option maxRecDepth 100000 in
theorem cut_vC {bs : List Nat} (hb : OkB bs) (hl : bs.length ≤ 1000000) (w : World) :
    Calls Tryz.prog 47 #[.string (strB bs), .string ⟨#[44]⟩] w fun e w' => e = .returned (.tuple #[.string (strB (cutC bs).1), .string (strB (cutC bs).2.1), .bool (cutC bs).2.2]) ∧ ∃ n, w' = w.drewN n := by
  have H := Lib.hid (cutl_vC hb hl w)
  go_enter Tryz.func47, Tryz.ntmps47
  go_wp2_with fail
  refine H.out.mono ?_
  rintro e w' ⟨rfl, j, rfl⟩
  go_wp2_with fail
  go_ret3
  exact ⟨rfl, j, rfl⟩
theorem cut_bC {bs : List Nat} (hb : OkB bs) (hl : bs.length ≤ 1000000) (w : World) :
    Calls Tryz.prog 47 #[.string (strB bs), .string ⟨#[44]⟩] w fun e w' => e = .returned (.tuple #[.string (strB (cutC bs).1), .string (strB (cutC bs).2.1), .bool (cutC bs).2.2]) ∧ Below w.heap.size w w' := by
  refine (cut_vC hb hl w).mono ?_
  rintro e w' ⟨rfl, n, rfl⟩
  exact ⟨rfl, below_drewN (Below.refl _ w) n⟩
end Go.Proofs.YtancgkmkbgkncaaGreatDoor
namespace Go.Proofs.YtancgkmkbgkncaaGreatDoor
open Go.RowKit

set_option maxRecDepth 100000 in
theorem hasprefP_yes {s : ByteArray} {n : Nat} (hs : s.size = n + 1) (he : s.extract 0 1 = ⟨#[40]⟩) (w : World) :
    Calls Tryz.prog 105 #[.string s, .string ⟨#[40]⟩] w fun e w' => e = .returned (.bool true) ∧ w = w' := by
  have h1 : (1 : Int) ≤ (n : Int) + 1 := by omega
  go_enter Tryz.func105, Tryz.ntmps105
  go_wp2_with fail
  go_ret
  exact ⟨rfl, rfl⟩
set_option maxRecDepth 100000 in
theorem hasprefP_no {s : ByteArray} {n b : Nat} (hs : s.size = n + 1) (he : s.extract 0 1 = strB [b]) (hb : b < 256) (hn : b ≠ 40) (w : World) :
    Calls Tryz.prog 105 #[.string s, .string ⟨#[40]⟩] w fun e w' => e = .returned (.bool false) ∧ w = w' := by
  have h1 : (1 : Int) ≤ (n : Int) + 1 := by omega
  have hq : ((strB [b]).toList == [40]) = false := by
    rw [strB_list]
    rw [beq_eq_false_iff_ne]
    intro h
    simp only [List.map_cons, List.map_nil, List.cons.injEq, and_true] at h
    have h2 := congrArg UInt8.toNat h
    rw [UInt8.toNat_ofNat_of_lt' (show b < UInt8.size from hb)] at h2
    exact hn h2
  go_enter Tryz.func105, Tryz.ntmps105
  go_wp2_with fail
  go_ret
  exact ⟨rfl, rfl⟩
set_option maxRecDepth 100000 in
theorem hasprefP_none (w : World) :
    Calls Tryz.prog 105 #[.string ⟨#[]⟩, .string ⟨#[40]⟩] w fun e w' => e = .returned (.bool false) ∧ w = w' := by
  have h0 : (⟨#[]⟩ : ByteArray).size = 0 := rfl
  go_enter Tryz.func105, Tryz.ntmps105
  go_wp2_with fail
  go_ret
  exact ⟨rfl, rfl⟩
/-- The opening parenthesis and what follows. -/
def splitP : List Nat → Bool × List Nat
  | [] => (false, [])
  | b :: t => if b = 40 then (true, t) else (false, b :: t)
theorem splitP_cons (b : Nat) (t : List Nat) : splitP (b :: t) = if b = 40 then (true, t) else (false, b :: t) := rfl
set_option maxRecDepth 100000 in
theorem cutliteP_v {bs : List Nat} (hb : OkB bs) (hl : bs.length ≤ 1000000) (w : World) :
    Calls Tryz.prog 77 #[.string (strB bs), .string ⟨#[40]⟩] w fun e w' => e = .returned (.tuple #[.string (strB (splitP bs).2), .bool (splitP bs).1]) ∧ w = w' := by
  rcases bs with _ | ⟨b, t⟩
  · have hs : strB [] = ⟨#[]⟩ := rfl
    have hsp : splitP [] = (false, []) := rfl
    rw [hsp, hs]
    go_enter Tryz.func77, Tryz.ntmps77
    go_wp2_with fail
    refine (hasprefP_none w).mono ?_
    rintro e w' ⟨rfl, rfl⟩
    go_wp2_with fail
    go_ret2
    exact ⟨rfl, rfl⟩
  · have hsz := strB_size (b :: t)
    rw [List.length_cons] at hsz hl
    have hh := strB_head b t
    have htl := strB_tail b t
    by_cases h40 : b = 40
    · subst h40
      have hsp : splitP (40 :: t) = (true, t) := by rw [splitP_cons, if_pos rfl]
      have hp := hasprefP_yes hsz hh w
      rw [hsp]
      have h1 : (1 : Int) ≤ (t.length : Int) + 1 := by omega
      have HP := Lib.hid hp
      obtain ⟨s, hs⟩ : ∃ s, strB (40 :: t) = s := ⟨_, rfl⟩
      obtain ⟨s2, hs2⟩ : ∃ s, strB t = s := ⟨_, rfl⟩
      rw [hs] at hsz htl HP ⊢
      rw [hs2] at htl ⊢
      clear hp hh hs hs2 hb
      go_enter Tryz.func77, Tryz.ntmps77
      go_wp2_with fail
      refine HP.out.mono ?_
      rintro e w' ⟨rfl, rfl⟩
      go_wp2_with fail
      go_ret2
      exact ⟨rfl, rfl⟩
    · have hsp : splitP (b :: t) = (false, b :: t) := by rw [splitP_cons, if_neg h40]
      have hp := hasprefP_no hsz hh (okB_cons.1 hb).1 h40 w
      rw [hsp]
      have HP := Lib.hid hp
      clear hp hh htl hb
      go_enter Tryz.func77, Tryz.ntmps77
      go_wp2_with fail
      refine HP.out.mono ?_
      rintro e w' ⟨rfl, rfl⟩
      go_wp2_with fail
      go_ret2
      exact ⟨rfl, rfl⟩
set_option maxRecDepth 100000 in
theorem cutprefP_v {bs : List Nat} (hb : OkB bs) (hl : bs.length ≤ 1000000) (w : World) :
    Calls Tryz.prog 45 #[.string (strB bs), .string ⟨#[40]⟩] w fun e w' => e = .returned (.tuple #[.string (strB (splitP bs).2), .bool (splitP bs).1]) ∧ w = w' := by
  have H := Lib.hid (cutliteP_v hb hl w)
  go_enter Tryz.func45, Tryz.ntmps45
  go_wp2_with fail
  refine H.out.mono ?_
  rintro e w' ⟨rfl, rfl⟩
  go_wp2_with fail
  go_ret2
  exact ⟨rfl, rfl⟩
theorem strB_end (t : List Nat) (b : Nat) : (strB (t ++ [b])).extract t.length (t.length + 1) = strB [b] := by
  have h := strB_extract (t ++ [b]) t.length
  rw [List.length_append, List.length_singleton, List.drop_left] at h
  exact h
theorem strB_init (t : List Nat) (b : Nat) : (strB (t ++ [b])).extract 0 t.length = strB t := strB_first t [b]
set_option maxRecDepth 100000 in
theorem hassufE_yes {s : ByteArray} {n : Nat} (hs : s.size = n + 1) (hn : n ≤ 1000000) (he : s.extract n (n + 1) = ⟨#[41]⟩) (w : World) :
    Calls Tryz.prog 106 #[.string s, .string ⟨#[41]⟩] w fun e w' => e = .returned (.bool true) ∧ w = w' := by
  have h1 : (1 : Int) ≤ (n : Int) + 1 := by omega
  have h2 : IntKind.i64.wrap ((n : Int) + 1 - 1) = (n : Int) := by simp [IntKind.wrap, IntKind.bits, IntKind.signed]; omega
  have h3 : (n : Int) + 1 - 1 = (n : Int) := by omega
  go_enter Tryz.func106, Tryz.ntmps106
  go_wp2_with fail
  go_ret
  exact ⟨rfl, rfl⟩
set_option maxRecDepth 100000 in
theorem hassufE_no {s : ByteArray} {n b : Nat} (hs : s.size = n + 1) (hn : n ≤ 1000000) (he : s.extract n (n + 1) = strB [b]) (hb : b < 256) (hne : b ≠ 41) (w : World) :
    Calls Tryz.prog 106 #[.string s, .string ⟨#[41]⟩] w fun e w' => e = .returned (.bool false) ∧ w = w' := by
  have h1 : (1 : Int) ≤ (n : Int) + 1 := by omega
  have h2 : IntKind.i64.wrap ((n : Int) + 1 - 1) = (n : Int) := by simp [IntKind.wrap, IntKind.bits, IntKind.signed]; omega
  have h3 : (n : Int) + 1 - 1 = (n : Int) := by omega
  have hq : ((strB [b]).toList == [41]) = false := by
    rw [strB_list]
    rw [beq_eq_false_iff_ne]
    intro h
    simp only [List.map_cons, List.map_nil, List.cons.injEq, and_true] at h
    have h2 := congrArg UInt8.toNat h
    rw [UInt8.toNat_ofNat_of_lt' (show b < UInt8.size from hb)] at h2
    exact hne h2
  go_enter Tryz.func106, Tryz.ntmps106
  go_wp2_with fail
  go_ret
  exact ⟨rfl, rfl⟩
set_option maxRecDepth 100000 in
theorem hassufE_none (w : World) :
    Calls Tryz.prog 106 #[.string ⟨#[]⟩, .string ⟨#[41]⟩] w fun e w' => e = .returned (.bool false) ∧ w = w' := by
  have h0 : (⟨#[]⟩ : ByteArray).size = 0 := rfl
  go_enter Tryz.func106, Tryz.ntmps106
  go_wp2_with fail
  go_ret
  exact ⟨rfl, rfl⟩
/-- The closing parenthesis and what is before it. -/
def splitE (bs : List Nat) : Bool × List Nat := if bs.getLast? = some 41 then (true, bs.dropLast) else (false, bs)
theorem splitE_snoc (t : List Nat) (b : Nat) : splitE (t ++ [b]) = if b = 41 then (true, t) else (false, t ++ [b]) := by simp [splitE]
theorem snoc_cases (bs : List Nat) : bs = [] ∨ ∃ t b, bs = t ++ [b] := by
  rcases List.eq_nil_or_concat bs with h | ⟨t, b, h⟩
  · exact .inl h
  · exact .inr ⟨t, b, by rw [h, List.concat_eq_append]⟩
set_option maxRecDepth 100000 in
theorem cutliteE_v {bs : List Nat} (hb : OkB bs) (hl : bs.length ≤ 1000000) (w : World) :
    Calls Tryz.prog 78 #[.string (strB bs), .string ⟨#[41]⟩] w fun e w' => e = .returned (.tuple #[.string (strB (splitE bs).2), .bool (splitE bs).1]) ∧ w = w' := by
  rcases snoc_cases bs with rfl | ⟨t, b, rfl⟩
  · have hs : strB [] = ⟨#[]⟩ := rfl
    have hsp : splitE [] = (false, []) := rfl
    rw [hsp, hs]
    go_enter Tryz.func78, Tryz.ntmps78
    go_wp2_with fail
    refine (hassufE_none w).mono ?_
    rintro e w' ⟨rfl, rfl⟩
    go_wp2_with fail
    go_ret2
    exact ⟨rfl, rfl⟩
  · have hsz := strB_size (t ++ [b])
    rw [List.length_append, List.length_singleton] at hsz hl
    have hh := strB_end t b
    have htl := strB_init t b
    have hbb : b < 256 := (okB_cons.1 (okB_append.1 hb).2).1
    by_cases h41 : b = 41
    · subst h41
      have hsp : splitE (t ++ [41]) = (true, t) := by rw [splitE_snoc, if_pos rfl]
      have hp := hassufE_yes hsz (by omega) hh w
      rw [hsp]
      have h1 : (1 : Int) ≤ (t.length : Int) + 1 := by omega
      have h2 : IntKind.i64.wrap ((t.length : Int) + 1 - 1) = (t.length : Int) := by simp [IntKind.wrap, IntKind.bits, IntKind.signed]; omega
      have h3 : (t.length : Int) + 1 - 1 = (t.length : Int) := by omega
      have HP := Lib.hid hp
      obtain ⟨s, hs⟩ : ∃ s, strB (t ++ [41]) = s := ⟨_, rfl⟩
      obtain ⟨s2, hs2⟩ : ∃ s, strB t = s := ⟨_, rfl⟩
      rw [hs] at hsz htl HP ⊢
      rw [hs2] at htl ⊢
      clear hp hh hs hs2 hb
      go_enter Tryz.func78, Tryz.ntmps78
      go_wp2_with fail
      refine HP.out.mono ?_
      rintro e w' ⟨rfl, rfl⟩
      go_wp2_with fail
      go_ret2
      exact ⟨rfl, rfl⟩
    · have hsp : splitE (t ++ [b]) = (false, t ++ [b]) := by rw [splitE_snoc, if_neg h41]
      have hp := hassufE_no hsz (by omega) hh hbb h41 w
      rw [hsp]
      have HP := Lib.hid hp
      clear hp hh htl hb
      go_enter Tryz.func78, Tryz.ntmps78
      go_wp2_with fail
      refine HP.out.mono ?_
      rintro e w' ⟨rfl, rfl⟩
      go_wp2_with fail
      go_ret2
      exact ⟨rfl, rfl⟩
set_option maxRecDepth 100000 in
theorem cutsufE_v {bs : List Nat} (hb : OkB bs) (hl : bs.length ≤ 1000000) (w : World) :
    Calls Tryz.prog 46 #[.string (strB bs), .string ⟨#[41]⟩] w fun e w' => e = .returned (.tuple #[.string (strB (splitE bs).2), .bool (splitE bs).1]) ∧ w = w' := by
  have H := Lib.hid (cutliteE_v hb hl w)
  go_enter Tryz.func46, Tryz.ntmps46
  go_wp2_with fail
  refine H.out.mono ?_
  rintro e w' ⟨rfl, rfl⟩
  go_wp2_with fail
  go_ret2
  exact ⟨rfl, rfl⟩
theorem splitP_ok {bs : List Nat} (hb : OkB bs) : OkB (splitP bs).2 ∧ (splitP bs).2.length ≤ bs.length := by
  rcases bs with _ | ⟨b, t⟩
  · exact ⟨hb, Nat.le_refl _⟩
  · rw [splitP_cons]
    split
    · exact ⟨(okB_cons.1 hb).2, by simp⟩
    · exact ⟨hb, Nat.le_refl _⟩
theorem splitE_ok {bs : List Nat} (hb : OkB bs) : OkB (splitE bs).2 ∧ (splitE bs).2.length ≤ bs.length := by
  rcases snoc_cases bs with rfl | ⟨t, b, rfl⟩
  · exact ⟨hb, Nat.le_refl _⟩
  · rw [splitE_snoc]
    split
    · exact ⟨(okB_append.1 hb).1, by simp⟩
    · exact ⟨hb, Nat.le_refl _⟩
/-- The texts of the coordinates, and whether there are two of them between parentheses. -/
def coordX (bs : List Nat) : List Nat := (cutC (splitE (splitP bs).2).2).1
def coordY (bs : List Nat) : List Nat := (cutC (splitE (splitP bs).2).2).2.1
def coordOk (bs : List Nat) : Bool := ((splitP bs).1 && (splitE (splitP bs).2).1) && (cutC (splitE (splitP bs).2).2).2.2
end Go.Proofs.YtancgkmkbgkncaaGreatDoor
