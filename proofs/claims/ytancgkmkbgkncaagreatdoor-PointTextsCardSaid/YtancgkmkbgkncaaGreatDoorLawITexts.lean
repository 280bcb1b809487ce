/-
  The walk of the law IntegerTexts.
-/
import Derived.Test.YtancgkmkbgkncaaGreatDoorK11
namespace Go.Proofs.YtancgkmkbgkncaaGreatDoor
open Go.RowKit

theorem Ints.below {w w' : World} {v : Value} (h : Ints w v) (hb : Below w.heap.size w w') : Ints w' v := by
  obtain ⟨A, n, c, e, h1, h2, h3⟩ := h
  refine ⟨A, n, c, e, h1, h2, fun j hj => ?_⟩
  obtain ⟨ad, z, e1, e2, e3⟩ := h3 j hj
  exact ⟨ad, z, e1, Nat.lt_of_lt_of_le e2 hb.size, (hb.cell (p := ad.add j) (by unfold Addr.add; split <;> exact e2)).trans e3⟩
theorem split_itoa (z : Int) : splitM (itoaB z) = (decide (z < 0), decT z.natAbs) := by
  unfold itoaB
  by_cases h : z < 0
  · rw [if_pos h, decide_eq_true h]; rfl
  · rw [if_neg h, decide_eq_false h, List.nil_append]
    have h1 := decT_dig z.natAbs
    have h2 := decT_ne z.natAbs
    revert h1 h2
    rcases decT z.natAbs with _ | ⟨b, t⟩
    · intro _ h2; exact absurd rfl h2
    · intro h1 _
      obtain ⟨h3, _⟩ := h1 b (List.mem_cons_self ..)
      rw [splitM_cons, if_neg (by omega)]
theorem itoa_ok (z : Int) : OkB (itoaB z) := by
  unfold itoaB
  intro b hb
  rcases List.mem_append.1 hb with h | h
  · split at h
    · rw [List.mem_singleton] at h; omega
    · cases h
  · exact decT_ok _ b h
theorem itoa_len {z : Int} {L : Nat} (h : z.natAbs < Bs L) : (itoaB z).length ≤ 10 * L + 2 := by
  unfold itoaB
  have h1 := decT_len h
  rw [List.length_append]
  split <;> simp <;> omega
theorem readI_yes {bs : List Nat} {w : World} {L : Nat} (hb : OkB bs) (hd : ∀ b ∈ (splitM bs).2, Dig b) (hne : (splitM bs).2 ≠ []) (hl : bs.length ≤ L) (hL : L ≤ 4096) :
    Calls Tryz.prog 31 #[.string (strB bs)] w fun e w' => ∃ t B k d, e = .returned (.tuple #[.agg #[.bool t, .slice B k d], .int .i64 0]) ∧ NI w' t (.slice B k d) (sg (splitM bs).1 (decN (splitM bs).2)) L ∧ Below w.heap.size w w' := by
  have hl2 := split_len bs
  exact readI_gen (kk := 0) hb (by omega) fun W _ => readn_v (split_ok hb) hd hne (by omega) hL
end Go.Proofs.YtancgkmkbgkncaaGreatDoor
