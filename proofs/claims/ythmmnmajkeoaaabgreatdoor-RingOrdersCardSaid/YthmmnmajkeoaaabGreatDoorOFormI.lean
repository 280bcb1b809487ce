/-
  The contracts of Int64, Normal and NormalI.
-/
import Derived.Test.YthmmnmajkeoaaabGreatDoorOK8
namespace Go.Proofs.YthmmnmajkeoaaabGreatDoor
open Go.RowKit

section
variable {A : Option Addr} {n c L : Nat} {s : Bool} {z : Int} {w : World} {ds : List Nat}
/-- Whether an integer of these digits is in normal form. -/
def normIB (s : Bool) (ds : List Nat) : Bool := normB ds && !(s && ds.length == 0)
set_option maxRecDepth 100000 in
theorem inormal_v (h : Raw w (.slice A n c) ds) :
    Calls Tryz.prog 94 #[.agg #[.bool s, .slice A n c]] w fun e w' => e = .returned (.bool (normIB s ds)) ∧ Below w.heap.size w w' := by
  have hn := h.cap.1
  obtain ⟨b, hb⟩ : ∃ b, normB ds = b := ⟨_, rfl⟩
  have hr : normIB s ds = (b && !(s && n == 0)) := by unfold normIB; rw [hb, hn]
  have HB := Lib.hid hb
  rw [hr]
  clear hr hn hb
  rcases Nat.eq_zero_or_pos n with rfl | hn0
  · cases b <;> cases s
    all_goals
      go_enter Tryz.func94, Tryz.ntmps94
      go_wp2_with fail
      obtain ⟨W, hW, b0, hbW, hsW⟩ := boxes1 w #[.bool _, .slice A 0 c] 61
      rw [hW]
      have c0 := b0.cell 0 _ rfl
      have c1 := b0.cell 1 _ rfl
      clear hW
      refine (normal_any (h.below hbW)).mono ?_
      rintro e w' ⟨rfl, rfl⟩
      rw [HB.out]
      go_wp2_with fail
      go_returns
      exact ⟨rfl, hbW⟩
  · have hn1 : ((n : Int) == 0) = false := by rw [beq_eq_false_iff_ne]; omega
    have hn2 : (n == 0) = false := by rw [beq_eq_false_iff_ne]; omega
    have hr : (b && !(s && n == 0)) = b := by rw [hn2]; simp
    rw [hr]
    clear hr hn2 hn0
    cases b <;> cases s
    all_goals
      go_enter Tryz.func94, Tryz.ntmps94
      go_wp2_with fail
      obtain ⟨W, hW, b0, hbW, hsW⟩ := boxes1 w #[.bool _, .slice A n c] 61
      rw [hW]
      have c0 := b0.cell 0 _ rfl
      have c1 := b0.cell 1 _ rfl
      clear hW
      refine (normal_any (h.below hbW)).mono ?_
      rintro e w' ⟨rfl, rfl⟩
      rw [HB.out]
      go_wp2_with fail
      go_returns
      exact ⟨rfl, hbW⟩
end
end Go.Proofs.YthmmnmajkeoaaabGreatDoor
