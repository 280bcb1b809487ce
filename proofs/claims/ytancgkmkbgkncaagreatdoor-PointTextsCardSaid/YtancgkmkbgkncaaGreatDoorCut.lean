/-
  The library's own contract of Cut of strings, laid at this program's numbers.
-/
import Derived.Shelf.Strings.Search1
import Derived.Shelf.Strings.Search2
import Derived.Test.YtancgkmkbgkncaaGreatDoorK10
namespace Go.Proofs.YtancgkmkbgkncaaGreatDoor
open Go.Shelf Go.RowKit Go.Lib

def Tryz.lays219_ren : Go.Shelf.Ren := ⟨fun | 219 => 107 | 217 => 121 | 225 => 122 | 224 => 123 | 267 => 124 | 266 => 138 | 314 => 139 | n => n, fun | 9 => 9 | 3 => 3 | 4 => 4 | 5 => 5 | 46 => 93 | 146 => 157 | 51 => 64 | n => n, fun | 1 => 4 | n => n⟩
theorem Tryz.lays219 : Go.Proofs.Lays.n219 Tryz.prog Tryz.lays219_ren := {
  mixed := by kernel_rfl
  f217 := Tryz.func121.trans (congrArg some (by kernel_rfl))
  f219 := Tryz.func107.trans (congrArg some (by kernel_rfl))
  f224 := Tryz.func123.trans (congrArg some (by kernel_rfl))
  f225 := Tryz.func122.trans (congrArg some (by kernel_rfl))
  f266 := Tryz.func138.trans (congrArg some (by kernel_rfl))
  f267 := Tryz.func124.trans (congrArg some (by kernel_rfl))
  f314 := Tryz.func139.trans (congrArg some (by kernel_rfl))
  t3 := Tryz.underlying3
  a3 := Tryz.isAgg3
  z3 := Tryz.sizeOf3
  v3 := Tryz.zeroValue3
  t4 := Tryz.underlying4
  a4 := Tryz.isAgg4
  z4 := Tryz.sizeOf4
  v4 := Tryz.zeroValue4
  t5 := Tryz.underlying5
  a5 := Tryz.isAgg5
  z5 := Tryz.sizeOf5
  v5 := Tryz.zeroValue5
  t9 := Tryz.underlying9
  a9 := Tryz.isAgg9
  z9 := Tryz.sizeOf9
  v9 := Tryz.zeroValue9
  t46 := Tryz.underlying93
  a46 := Tryz.isAgg93
  z46 := Tryz.sizeOf93
  v46 := Tryz.zeroValue93
  t51 := Tryz.underlying64
  a51 := Tryz.isAgg64
  z51 := Tryz.sizeOf64
  v51 := Tryz.zeroValue64
  t146 := Tryz.underlying157
  a146 := Tryz.isAgg157
  z146 := Tryz.sizeOf157
  v146 := Tryz.zeroValue157
  g1 := by kernel_rfl }
theorem Tryz.stringslite_Index_one (s : ByteArray) (c : UInt8) (w : World) :
    Calls Tryz.prog 107 #[.string s, .string ⟨#[c]⟩] w fun e w' => e = .returned (.int .i64 (Lib.indexByte s.data.toList c)) ∧ w' = w := Any.stringslite_Index_one Tryz.lays219 s c w
/-- The text before the first slash, the text behind it, and whether there is one. -/
def cutS : List Nat → List Nat × List Nat × Bool
  | [] => ([], [], false)
  | b :: t => if b = 47 then ([], t, true) else (b :: (cutS t).1, (cutS t).2.1, (cutS t).2.2)
theorem cutS_cons (b : Nat) (t : List Nat) : cutS (b :: t) = if b = 47 then ([], t, true) else (b :: (cutS t).1, (cutS t).2.1, (cutS t).2.2) := rfl
theorem cutS_miss {bs : List Nat} (h : (cutS bs).2.2 = false) : (cutS bs).1 = bs ∧ (cutS bs).2.1 = [] ∧ 47 ∉ bs := by
  induction bs with
  | nil => exact ⟨rfl, rfl, by simp⟩
  | cons b t ih =>
    rw [cutS_cons] at h ⊢
    by_cases hb : b = 47
    · rw [if_pos hb] at h; cases h
    · rw [if_neg hb] at h ⊢
      obtain ⟨h1, h2, h3⟩ := ih h
      refine ⟨by rw [h1], h2, ?_⟩
      rw [List.mem_cons]
      rintro (h | h)
      · exact hb h.symm
      · exact h3 h
theorem cutS_hit {bs : List Nat} (h : (cutS bs).2.2 = true) : bs = (cutS bs).1 ++ 47 :: (cutS bs).2.1 ∧ 47 ∉ (cutS bs).1 := by
  induction bs with
  | nil => cases h
  | cons b t ih =>
    rw [cutS_cons] at h ⊢
    by_cases hb : b = 47
    · rw [if_pos hb]; subst hb; exact ⟨rfl, by simp⟩
    · rw [if_neg hb] at h ⊢
      obtain ⟨h1, h2⟩ := ih h
      refine ⟨congrArg (b :: ·) h1, ?_⟩
      rw [List.mem_cons]
      rintro (h | h)
      · exact hb h.symm
      · exact h2 h
theorem byte47 {b : Nat} (h : b < 256) (hb : b ≠ 47) : (UInt8.ofNat b == 47) = false := by
  rw [beq_eq_false_iff_ne]
  intro h1
  have h2 := congrArg UInt8.toNat h1
  rw [UInt8.toNat_ofNat_of_lt' (show b < UInt8.size from h)] at h2
  exact hb h2
theorem index_miss {bs : List Nat} (hb : OkB bs) (h : 47 ∉ bs) : Lib.indexByte (bs.map UInt8.ofNat) 47 = -1 := by
  induction bs with
  | nil => rfl
  | cons b t ih =>
    rw [List.mem_cons] at h
    have h1 := (okB_cons.1 hb)
    rw [List.map_cons, Lib.indexByte, byte47 h1.1 (fun e => h (.inl e.symm)), ih h1.2 (fun e => h (.inr e))]
    rfl
theorem index_hit {xs ds : List Nat} (hb : OkB xs) (h : 47 ∉ xs) : Lib.indexByte ((xs ++ 47 :: ds).map UInt8.ofNat) 47 = (xs.length : Int) := by
  induction xs with
  | nil => rfl
  | cons b t ih =>
    rw [List.mem_cons] at h
    have h1 := (okB_cons.1 hb)
    rw [List.cons_append, List.map_cons, Lib.indexByte, byte47 h1.1 (fun e => h (.inl e.symm)), ih h1.2 (fun e => h (.inr e)), List.length_cons]
    have h2 : ((t.length : Int) == -1) = false := by rw [beq_eq_false_iff_ne]; omega
    rw [h2]
    simp
theorem strB_data (bs : List Nat) : (strB bs).data.toList = bs.map UInt8.ofNat := by simp [strB]
theorem strB_first (xs ds : List Nat) : (strB (xs ++ ds)).extract 0 xs.length = strB xs := by
  apply ByteArray.ext
  apply Array.toList_inj.1
  rw [Lib.extract_data]
  simp [strB]
theorem strB_last (xs ds : List Nat) : (strB (xs ++ 47 :: ds)).extract (xs.length + 1) (xs.length + 1 + ds.length) = strB ds := by
  have h := strB_extract (xs ++ 47 :: ds) (xs.length + 1)
  rw [List.length_append, List.length_cons, show xs.length + (ds.length + 1) = xs.length + 1 + ds.length by omega] at h
  rw [h]
  congr 1
  rw [List.drop_append]
  simp
set_option maxRecDepth 100000 in
theorem cutl_v {bs : List Nat} (hb : OkB bs) (hl : bs.length ≤ 1000000) (w : World) :
    Calls Tryz.prog 79 #[.string (strB bs), .string ⟨#[47]⟩] w fun e w' => e = .returned (.tuple #[.string (strB (cutS bs).1), .string (strB (cutS bs).2.1), .bool (cutS bs).2.2]) ∧ ∃ n, w' = w.drewN n := by
  have hI := Any.stringslite_Index_one Tryz.lays219 (strB bs) 47 w
  rw [strB_data] at hI
  cases hc : (cutS bs).2.2
  · obtain ⟨h1, h2, h3⟩ := cutS_miss hc
    rw [index_miss hb h3] at hI
    rw [h1, h2]
    have HI := Lib.hid hI
    obtain ⟨s, hs⟩ : ∃ s, strB bs = s := ⟨_, rfl⟩
    rw [hs] at HI ⊢
    have hs0 : strB [] = ⟨#[]⟩ := rfl
    rw [hs0]
    clear hI hb hl hc h1 h2 h3 hs
    go_enter Tryz.func79, Tryz.ntmps79
    go_wp2_with fail
    refine HI.out.mono ?_
    rintro e w' ⟨rfl, rfl⟩
    go_wp2_with fail
    go_ret3
    exact ⟨rfl, 0, rfl⟩
  · obtain ⟨h1, h2⟩ := cutS_hit hc
    have hbA : OkB (cutS bs).1 := by rw [h1] at hb; exact (okB_append.1 hb).1
    have hsz := strB_size bs
    generalize (cutS bs).1 = xs at *
    generalize (cutS bs).2.1 = ds at *
    subst h1
    rw [index_hit hbA h2] at hI
    have hf := strB_first xs (47 :: ds)
    have hg := strB_last xs ds
    rw [List.length_append, List.length_cons] at hsz hl
    have hsz2 : (strB (xs ++ 47 :: ds)).size = xs.length + 1 + ds.length := by omega
    have HI := Lib.hid hI
    obtain ⟨s, hs⟩ : ∃ s, strB (xs ++ 47 :: ds) = s := ⟨_, rfl⟩
    rw [hs] at HI hf hg hsz2 ⊢
    clear hI hb hc hs hbA h2 hsz
    generalize hn : xs.length = n at *
    generalize hm : ds.length = m at *
    have i1 : (0 : Int) ≤ (n : Int) := by omega
    have i2 : (n : Int) ≤ (n : Int) + 1 + (m : Int) := by omega
    have i3 : (n : Int) + 1 ≤ (n : Int) + 1 + (m : Int) := by omega
    have i4 : (0 : Int) ≤ (n : Int) + 1 := by omega
    have i5 : IntKind.i64.wrap ((n : Int) + 1) = (n : Int) + 1 := by simp [IntKind.wrap, IntKind.bits, IntKind.signed]; omega
    go_enter Tryz.func79, Tryz.ntmps79
    go_wp2_with fail
    refine HI.out.mono ?_
    rintro e w' ⟨rfl, rfl⟩
    go_wp2_with fail
    go_region
    go_wp2_with fail
    go_ret3
    exact ⟨rfl, 1, rfl⟩
set_option maxRecDepth 100000 in
theorem cut_v {bs : List Nat} (hb : OkB bs) (hl : bs.length ≤ 1000000) (w : World) :
    Calls Tryz.prog 47 #[.string (strB bs), .string ⟨#[47]⟩] w fun e w' => e = .returned (.tuple #[.string (strB (cutS bs).1), .string (strB (cutS bs).2.1), .bool (cutS bs).2.2]) ∧ ∃ n, w' = w.drewN n := by
  have H := Lib.hid (cutl_v hb hl w)
  go_enter Tryz.func47, Tryz.ntmps47
  go_wp2_with fail
  refine H.out.mono ?_
  rintro e w' ⟨rfl, j, rfl⟩
  go_wp2_with fail
  go_ret3
  exact ⟨rfl, j, rfl⟩
end Go.Proofs.YtancgkmkbgkncaaGreatDoor
