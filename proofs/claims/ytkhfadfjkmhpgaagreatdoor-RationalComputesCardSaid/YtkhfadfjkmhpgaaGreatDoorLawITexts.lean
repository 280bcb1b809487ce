/-
  The walk of the law IntegerTexts.
-/
import Derived.Test.YtkhfadfjkmhpgaaGreatDoorK11
namespace Go.Proofs.YtkhfadfjkmhpgaaGreatDoor
open Go.RowKit

theorem Ints.below {w w' : World} {v : Value} (h : Ints w v) (hb : Below w.heap.size w w') : Ints w' v := by
  obtain ⟨A, n, c, e, h1, h2, h3⟩ := h
  refine ⟨A, n, c, e, h1, h2, fun j hj => ?_⟩
  obtain ⟨ad, z, e1, e2, e3⟩ := h3 j hj
  exact ⟨ad, z, e1, Nat.lt_of_lt_of_le e2 hb.size, (hb.cell (p := ad.add j) (by unfold Addr.add; split <;> exact e2)).trans e3⟩
theorem split_itoa (z : Int) : splitM (itoaB z) = (decide (z < 0), decT z.natAbs) := by
  unfold itoaB
  by_cases h : z < 0
  · rw [if_pos h, decide_eq_true h]; rfl
  · rw [if_neg h, decide_eq_false h, List.nil_append]
    have h1 := decT_dig z.natAbs
    have h2 := decT_ne z.natAbs
    revert h1 h2
    rcases decT z.natAbs with _ | ⟨b, t⟩
    · intro _ h2; exact absurd rfl h2
    · intro h1 _
      obtain ⟨h3, _⟩ := h1 b (List.mem_cons_self ..)
      rw [splitM_cons, if_neg (by omega)]
theorem itoa_ok (z : Int) : OkB (itoaB z) := by
  unfold itoaB
  intro b hb
  rcases List.mem_append.1 hb with h | h
  · split at h
    · rw [List.mem_singleton] at h; omega
    · cases h
  · exact decT_ok _ b h
theorem itoa_len {z : Int} {L : Nat} (h : z.natAbs < Bs L) : (itoaB z).length ≤ 10 * L + 2 := by
  unfold itoaB
  have h1 := decT_len h
  rw [List.length_append]
  split <;> simp <;> omega
theorem iback_v {z : Int} {w : World} {L : Nat} (hx : z.natAbs < Bs L) (hL : 10 * L + 2 ≤ 4096) :
    Calls Tryz.prog 90 #[.string (strB (itoaB z))] w fun e w' => ∃ t B k d, e = .returned (.tuple #[.agg #[.bool t, .slice B k d], .nilIface]) ∧ NI w' t (.slice B k d) z (10 * L + 2) ∧ Below w.heap.size w w' := by
  have h := iparse_yes (w := w) (L := 10 * L + 2) (itoa_ok z) (by rw [split_itoa]; exact decT_dig _) (by rw [split_itoa]; exact decT_ne _) (itoa_len hx) hL
  rwa [split_itoa, decN_decT, sg_self] at h
theorem NV_zero (w : World) {L : Nat} : NV w (.slice none 0 0) 0 L := ⟨num_zero _ _, Bs_pos L⟩
theorem readI_yes {bs : List Nat} {w : World} {L : Nat} (hb : OkB bs) (hd : ∀ b ∈ (splitM bs).2, Dig b) (hne : (splitM bs).2 ≠ []) (hl : bs.length ≤ L) (hL : L ≤ 4096) :
    Calls Tryz.prog 92 #[.string (strB bs)] w fun e w' => ∃ t B k d, e = .returned (.tuple #[.agg #[.bool t, .slice B k d], .int .i64 0]) ∧ NI w' t (.slice B k d) (sg (splitM bs).1 (decN (splitM bs).2)) L ∧ Below w.heap.size w w' := by
  have hl2 := split_len bs
  exact readI_gen (kk := 0) hb (by omega) fun W _ => readn_v (split_ok hb) hd hne (by omega) hL
theorem readI_no {bs : List Nat} {w : World} (hb : OkB bs) (hl : bs.length ≤ 4096) (hn : ¬ ((∀ b ∈ (splitM bs).2, Dig b) ∧ (splitM bs).2 ≠ [])) :
    Calls Tryz.prog 92 #[.string (strB bs)] w fun e w' => ∃ t B k d, e = .returned (.tuple #[.agg #[.bool t, .slice B k d], .int .i64 1]) ∧ Below w.heap.size w w' := by
  have hl2 := split_len bs
  refine (readI_gen (kk := 1) (v := 0) (L := 1) hb hl fun W hb => ?_).mono ?_
  · refine (readn_no (split_ok ‹OkB bs›) (by omega) hn).mono ?_
    rintro e w' ⟨rfl, rfl⟩
    exact ⟨none, 0, 0, rfl, NV_zero _, Below.refl _ _⟩
  · rintro e w' ⟨t, B, k, d, rfl, _, h⟩
    exact ⟨t, B, k, d, rfl, h⟩
theorem NI_zero (w : World) : NI w false (.slice none 0 0) 0 1 := ⟨NV_zero w, rfl⟩

end Go.Proofs.YtkhfadfjkmhpgaaGreatDoor
