/-
  Both readers of rational numbers by cases; Parse of Format.
-/
import Derived.Test.YtancgkmkbgkncaaGreatDoorRatN
import Derived.Test.YtancgkmkbgkncaaGreatDoorTextQ
import Derived.Test.YtancgkmkbgkncaaGreatDoorRatS
namespace Go.Proofs.YtancgkmkbgkncaaGreatDoor
open Go.RowKit

section
variable {bs : List Nat} {a a' : Addr} {A0 A1 A2 A3 D0 D1 D2 D3 : Option Addr} {n0 n1 n2 n3 c0 c1 c2 c3 m0 m1 m2 m3 e0 e1 e2 e3 : Nat} {s0 s1 s2 s3 : Bool} {z z' z0 z1 z2 : Int} {q q' q0 q1 q2 : Rat} {L L0 L1 L2 x x0 x1 y : Nat} {k : Int} {w : World}
theorem readI_bad {L : Nat} (hb : OkB bs) (hl : bs.length ≤ 4096) (hn : ¬ ((∀ b ∈ (splitM bs).2, Dig b) ∧ (splitM bs).2 ≠ [])) :
    Calls Tryz.prog 31 #[.string (strB bs)] w fun e w' => ∃ t B k d, e = .returned (.tuple #[.agg #[.bool t, .slice B k d], .int .i64 1]) ∧ NI w' t (.slice B k d) (sg (splitM bs).1 0) L ∧ Below w.heap.size w w' := by
  have hl2 := split_len bs
  refine readI_gen (kk := 1) (v := 0) hb hl (fun W hW => ?_)
  refine (readn_no (split_ok hb) (by omega) hn).mono ?_
  rintro e w' ⟨rfl, rfl⟩
  exact ⟨none, 0, 0, rfl, slice_nil _, Below.refl _ _⟩
theorem readn_bad0 {L : Nat} (hb : OkB bs) (hl : bs.length ≤ 4096) (h : ¬ ((∀ b ∈ bs, Dig b) ∧ bs ≠ [])) :
    Calls Tryz.prog 33 #[.string (strB bs)] w fun e w' => ∃ A n c, e = .returned (.tuple #[.slice A n c, .int .i64 1]) ∧ NV w' (.slice A n c) 0 L ∧ Below w.heap.size w w' := by
  refine (readn_no hb (by omega) h).mono ?_
  rintro e w' ⟨rfl, rfl⟩
  exact ⟨none, 0, 0, rfl, slice_nil _, Below.refl _ _⟩
theorem denS_found (hf : (cutS bs).2.2 = true) : denS bs = (cutS bs).2.1 := by unfold denS; rw [if_pos hf]
theorem denS_none (hf : (cutS bs).2.2 = false) : denS bs = [49] := by unfold denS; rw [if_neg (by rw [hf]; simp)]
theorem readq_ok (hb : OkB bs) (hl : bs.length ≤ 200) (hi : ((∀ b ∈ (splitM (cutS bs).1).2, Dig b) ∧ (splitM (cutS bs).1).2 ≠ [])) (hd : ((∀ b ∈ denS bs, Dig b) ∧ denS bs ≠ [])) (hz : decN (denS bs) ≠ 0) :
    Calls Tryz.prog 13 #[.string (strB bs)] w fun e w' => ∃ s4 A4 n4 c4 D4 m4 e4, e = .returned (.tuple #[.agg #[.bool s4, .slice A4 n4 c4, .slice D4 m4 e4], .int .i64 0]) ∧ PQ w' s4 (.slice A4 n4 c4) (.slice D4 m4 e4) (mkRat (sg (splitM (cutS bs).1).1 (decN (splitM (cutS bs).1).2)) (decN (denS bs))) 200 ∧ Below w.heap.size w w' := by
  have hc := cutS_ok hb
  have hlc := cutS_len bs
  have H : ∀ W : World, Below w.heap.size w W → _ := fun W _ => readI_yes (w := W) (L := 200) hc.1 hi.1 hi.2 (by omega) (by omega)
  cases hf : (cutS bs).2.2
  · have h := readq_yes0 (w := w) (L := 200) hb hl hf H (by omega) (by omega)
    rw [denS_none hf]
    exact h
  · rw [denS_found hf] at hd hz ⊢
    exact readq_yes1 (w := w) (L := 200) hb hl hf H (fun W _ => readn_v (L := 200) hc.2 hd.1 hd.2 (by omega) (by omega)) hz (by omega)
theorem readq_nul (hb : OkB bs) (hl : bs.length ≤ 200) (hi : ((∀ b ∈ (splitM (cutS bs).1).2, Dig b) ∧ (splitM (cutS bs).1).2 ≠ [])) (hd : ((∀ b ∈ denS bs, Dig b) ∧ denS bs ≠ [])) (hz : decN (denS bs) = 0) :
    Calls Tryz.prog 13 #[.string (strB bs)] w fun e w' => ∃ s4 A4 n4 c4 D4 m4 e4, e = .returned (.tuple #[.agg #[.bool s4, .slice A4 n4 c4, .slice D4 m4 e4], .int .i64 3]) ∧ Below w.heap.size w w' := by
  have hc := cutS_ok hb
  have hlc := cutS_len bs
  have H : ∀ W : World, Below w.heap.size w W → _ := fun W _ => readI_yes (w := W) (L := 200) hc.1 hi.1 hi.2 (by omega) (by omega)
  cases hf : (cutS bs).2.2
  · rw [denS_none hf] at hz
    exact absurd hz (by decide)
  · rw [denS_found hf] at hd hz
    refine (readq_zero1 (w := w) (L := 200) hb hl hf H (fun W _ => by have h := readn_v (w := W) (L := 200) hc.2 hd.1 hd.2 (by omega) (by omega); rwa [hz] at h)).mono ?_
    rintro e w' ⟨rfl, h2⟩
    exact ⟨_, _, _, _, _, _, _, rfl, h2⟩
theorem readq_no (hb : OkB bs) (hl : bs.length ≤ 200) (hn : ¬ (((∀ b ∈ (splitM (cutS bs).1).2, Dig b) ∧ (splitM (cutS bs).1).2 ≠ []) ∧ ((∀ b ∈ denS bs, Dig b) ∧ denS bs ≠ []))) :
    Calls Tryz.prog 13 #[.string (strB bs)] w fun e w' => ∃ s4 A4 n4 c4 D4 m4 e4, e = .returned (.tuple #[.agg #[.bool s4, .slice A4 n4 c4, .slice D4 m4 e4], .int .i64 1]) ∧ Below w.heap.size w w' := by
  have hc := cutS_ok hb
  have hlc := cutS_len bs
  have fin : ∀ {e : Ending} {w' : World}, e = .returned (.tuple #[.agg #[.bool false, .slice none 0 0, .slice none 0 0], .int .i64 1]) ∧ Below w.heap.size w w' → ∃ s4 A4 n4 c4 D4 m4 e4, e = .returned (.tuple #[.agg #[.bool s4, .slice A4 n4 c4, .slice D4 m4 e4], .int .i64 1]) ∧ Below w.heap.size w w' := by
    rintro e w' ⟨rfl, h2⟩
    exact ⟨_, _, _, _, _, _, _, rfl, h2⟩
  by_cases hi : ((∀ b ∈ (splitM (cutS bs).1).2, Dig b) ∧ (splitM (cutS bs).1).2 ≠ [])
  · have hd : ¬ ((∀ b ∈ denS bs, Dig b) ∧ denS bs ≠ []) := fun h => hn ⟨hi, h⟩
    cases hf : (cutS bs).2.2
    · rw [denS_none hf] at hd
      exact absurd ⟨dig_in (l := [49]) rfl, by decide⟩ hd
    · rw [denS_found hf] at hd
      exact (readq_den1 (w := w) (L := 200) (x := 0) hb hl hf (fun W _ => readI_yes (w := W) (L := 200) hc.1 hi.1 hi.2 (by omega) (by omega)) (fun W _ => readn_bad0 hc.2 (by omega) hd)).mono fun e w' h => fin h
  · have H : ∀ W : World, Below w.heap.size w W → _ := fun W _ => readI_bad (w := W) (L := 200) hc.1 (by omega) hi
    cases hf : (cutS bs).2.2
    · exact (readq_num0 (w := w) (L := 200) hb hl hf H).mono fun e w' h => fin h
    · by_cases hd : (∀ b ∈ (cutS bs).2.1, Dig b) ∧ (cutS bs).2.1 ≠ []
      · exact (readq_num1 (w := w) (L := 200) (kf := 0) hb hl hf H (fun W _ => readn_v (L := 200) hc.2 hd.1 hd.2 (by omega) (by omega))).mono fun e w' h => fin h
      · exact (readq_num1 (w := w) (L := 200) (kf := 1) (x := 0) hb hl hf H (fun W _ => readn_bad0 hc.2 (by omega) hd)).mono fun e w' h => fin h
/-- The zero value, digit by digit. -/
def ZR (w : World) (s : Bool) (v u : Value) : Prop := s = false ∧ Raw w v [] ∧ Raw w u []
theorem ZR.below {w' : World} {v u : Value} (h : ZR w s0 v u) (hb : Below w.heap.size w w') : ZR w' s0 v u := ⟨h.1, h.2.1.below hb, h.2.2.below hb⟩
theorem sameq_z (h : ZR w s0 (.slice A0 n0 c0) (.slice D0 m0 e0)) :
    Calls Tryz.prog 35 #[.agg #[.bool s0, .slice A0 n0 c0, .slice D0 m0 e0], .agg #[.bool false, .slice none 0 0, .slice none 0 0]] w fun e w' => e = .returned (.bool true) ∧ Below w.heap.size w w' := by
  obtain ⟨rfl, h1, h2⟩ := h
  refine (sameq_r h1 h2 (raw_nil none 0) (raw_nil none 0)).mono ?_
  rintro e w' ⟨rfl, h3⟩
  exact ⟨by simp, h3⟩
theorem rpar_no (hb : OkB bs) (hl : bs.length ≤ 200) (hn : ¬ (((∀ b ∈ (splitM (cutS bs).1).2, Dig b) ∧ (splitM (cutS bs).1).2 ≠ []) ∧ ((∀ b ∈ denS bs, Dig b) ∧ denS bs ≠ []))) (hS : w.cell? ⟨0, 0, none⟩ = some (.iface 195 (.pointer (some a)))) :
    Calls Tryz.prog 25 #[.string (strB bs)] w fun e w' => ∃ st : ByteArray, ∃ s3 A3 n3 c3 D3 m3 e3, e = .returned (.tuple #[.agg #[.bool s3, .slice A3 n3 c3, .slice D3 m3 e3], .iface 103 (.agg #[.string st, .iface 195 (.pointer (some a))])]) ∧ ZR w' s3 (.slice A3 n3 c3) (.slice D3 m3 e3) ∧ Below w.heap.size w w' := by
  refine (rparse_no hb hl (by omega) hn hS).mono ?_
  rintro e w' ⟨⟨st, rfl⟩, h2⟩
  exact ⟨st, _, _, _, _, _, _, _, rfl, ⟨rfl, raw_nil _ _, raw_nil _ _⟩, h2⟩
theorem rpar_nul (hb : OkB bs) (hl : bs.length ≤ 200) (hi : ((∀ b ∈ (splitM (cutS bs).1).2, Dig b) ∧ (splitM (cutS bs).1).2 ≠ [])) (hd : ((∀ b ∈ denS bs, Dig b) ∧ denS bs ≠ [])) (hS : w.cell? ⟨0, 0, none⟩ = some (.iface 195 (.pointer (some a)))) (hR : w.cell? ⟨1, 0, none⟩ = some (.iface 195 (.pointer (some a')))) (hz : decN (denS bs) = 0) :
    Calls Tryz.prog 25 #[.string (strB bs)] w fun e w' => ∃ st : ByteArray, ∃ s3 A3 n3 c3 D3 m3 e3, e = .returned (.tuple #[.agg #[.bool s3, .slice A3 n3 c3, .slice D3 m3 e3], .iface 103 (.agg #[.string st, .iface 195 (.pointer (some a'))])]) ∧ ZR w' s3 (.slice A3 n3 c3) (.slice D3 m3 e3) ∧ Below w.heap.size w w' := by
  refine (rparse_zero hb hl (by omega) hi hd hS hR hz).mono ?_
  rintro e w' ⟨rfl, h2⟩
  exact ⟨_, _, _, _, _, _, _, _, rfl, ⟨rfl, raw_nil _ _, raw_nil _ _⟩, h2⟩
theorem cutS_plain {l : List Nat} (h : 47 ∉ l) : cutS l = (l, [], false) := by
  induction l with
  | nil => rfl
  | cons b t ih =>
    rw [List.mem_cons, not_or] at h
    rw [cutS_cons, if_neg (fun h1 => h.1 h1.symm), ih h.2]
theorem cutS_slash {l : List Nat} (ds : List Nat) (h : 47 ∉ l) : cutS (l ++ 47 :: ds) = (l, ds, true) := by
  induction l with
  | nil => rw [List.nil_append, cutS_cons, if_pos rfl]
  | cons b t ih =>
    rw [List.mem_cons, not_or] at h
    rw [List.cons_append, cutS_cons, if_neg (fun h1 => h.1 h1.symm), ih h.2]
theorem dig_ne47 {l : List Nat} (h : ∀ b ∈ l, Dig b) : 47 ∉ l := fun hm => by
  have h1 := h 47 hm
  exact absurd h1.1 (by omega)
theorem itoa47 (z : Int) : 47 ∉ itoaB z := by
  unfold itoaB
  rw [List.mem_append, not_or]
  refine ⟨?_, dig_ne47 (decT_dig _)⟩
  split <;> simp
theorem rback_v {q : Rat} {L : Nat} (hn : q.num.natAbs < Bs L) (hd : q.den < Bs L) (hL : 20 * L + 4 ≤ 4000) (hS : w.cell? ⟨0, 0, none⟩ = some (.iface 195 (.pointer (some a)))) :
    Calls Tryz.prog 25 #[.string (strB (ratB q))] w fun e w' => ∃ s3 A3 n3 c3 D3 m3 e3, e = .returned (.tuple #[.agg #[.bool s3, .slice A3 n3 c3, .slice D3 m3 e3], .nilIface]) ∧ NQ w' s3 (.slice A3 n3 c3) (.slice D3 m3 e3) q (20 * L + 6) ∧ Below w.heap.size w w' := by
  have l1 := itoa_len hn
  have l2 := decT_len hd
  have hv : sg (decide (q.num < 0)) (decN (decT q.num.natAbs)) = q.num := by rw [decN_decT]; exact sg_self _
  by_cases h1 : q.den = 1
  · have hr : ratB q = itoaB q.num := if_pos h1
    have hc := cutS_plain (itoa47 q.num)
    have h := rparse_yes (bs := itoaB q.num) (w := w) (a := a) (L := 20 * L + 4) (itoa_ok _) (by omega) hL (by rw [hc, split_itoa]; exact ⟨decT_dig _, decT_ne _⟩) (by rw [denS_none (by rw [hc])]; exact ⟨dig_in (l := [49]) rfl, by decide⟩) hS (by rw [denS_none (by rw [hc])]; decide)
    rw [hc, split_itoa, denS_none (by rw [hc])] at h
    rw [hr]
    have hq : mkRat (sg (decide (q.num < 0)) (decN (decT q.num.natAbs))) (decN [49]) = q := by
      rw [hv, show decN [49] = q.den by rw [h1]; rfl]; exact Rat.mkRat_self q
    rw [hq] at h
    exact h
  · have hr : ratB q = itoaB q.num ++ 47 :: decT q.den := if_neg h1
    have hc := cutS_slash (decT q.den) (itoa47 q.num)
    have hlen : (itoaB q.num ++ 47 :: decT q.den).length ≤ 20 * L + 4 := by rw [List.length_append, List.length_cons]; omega
    have hok : OkB (itoaB q.num ++ 47 :: decT q.den) := okB_append.2 ⟨itoa_ok _, okB_cons.2 ⟨by omega, decT_ok _⟩⟩
    have hds : denS (itoaB q.num ++ 47 :: decT q.den) = decT q.den := by rw [denS_found (by rw [hc]), hc]
    have h := rparse_yes (w := w) (a := a) (L := 20 * L + 4) hok hlen hL (by rw [hc, split_itoa]; exact ⟨decT_dig _, decT_ne _⟩) (by rw [hds]; exact ⟨decT_dig _, decT_ne _⟩) hS (by rw [hds, decN_decT]; exact q.den_nz)
    rw [hds, hc, split_itoa, decN_decT q.den] at h
    rw [hr]
    simp only [hv, Rat.mkRat_self] at h
    exact h
end
end Go.Proofs.YtancgkmkbgkncaaGreatDoor
