/-
  Parse where it refuses.
-/
import Derived.Test.YtkhfadfjkmhpgaaGreatDoorIs
namespace Go.Proofs.YtkhfadfjkmhpgaaGreatDoor
open Go.RowKit

set_option maxRecDepth 100000 in
theorem parse_no {bs : List Nat} {w : World} {a : Addr} (hb : OkB bs) (hl : bs.length ≤ 1000000000) (hn : ¬ ((∀ b ∈ bs, Dig b) ∧ bs ≠ [])) (hE : w.cell? ⟨0, 0, none⟩ = some (.iface 199 (.pointer (some a)))) :
    Calls Tryz.prog 91 #[.string (strB bs)] w fun e w' => e = .returned (.tuple #[.slice none 0 0, .iface 199 (.pointer (some a))]) ∧ Below w.heap.size w w' := by
  have HO := Lib.hid (only_no (w := w) hb hl hn)
  clear hn
  go_enter Tryz.func91, Tryz.ntmps91
  go_wp2_with fail
  refine HO.out.mono ?_
  rintro e w' ⟨rfl, rfl⟩
  go_wp2_with fail
  go_quiet (fail)
  go_wp2_with fail
  go_ret2
  exact ⟨rfl, below_drewN (Below.refl _ _) _⟩
set_option maxRecDepth 100000 in
theorem parse_big {bs : List Nat} {w : World} {a : Addr} (hb : OkB bs) (hl : bs.length ≤ 1000000000) (hd : ∀ b ∈ bs, Dig b) (h4 : 4096 < bs.length) (hE : w.cell? ⟨2, 0, none⟩ = some (.iface 199 (.pointer (some a)))) :
    Calls Tryz.prog 91 #[.string (strB bs)] w fun e w' => e = .returned (.tuple #[.slice none 0 0, .iface 199 (.pointer (some a))]) ∧ Below w.heap.size w w' := by
  have HO := Lib.hid (only_yes (w := w) hb hl hd (by intro e; rw [e] at h4; simp at h4))
  have hsz := strB_size bs
  have h5 : (4096 : Int) < (bs.length : Int) := by omega
  clear hd
  go_enter Tryz.func91, Tryz.ntmps91
  go_wp2_with fail
  refine HO.out.mono ?_
  rintro e w' ⟨rfl, rfl⟩
  go_wp2_with fail
  go_quiet (fail)
  go_wp2_with fail
  go_ret2
  exact ⟨rfl, below_drewN (Below.refl _ _) _⟩
end Go.Proofs.YtkhfadfjkmhpgaaGreatDoor
