/-
  Small of two numbers.
-/
import Derived.Test.YtacfdcfkfjildaaDoorForms
namespace Go.Proofs.YtacfdcfkfjildaaDoor
open Go.RowKit

section
variable {A A' : Option Addr} {n n' c c' : Nat} {w : World}
set_option maxRecDepth 100000 in
theorem smallb_yes {g m : Nat} (hc : w.cell? ⟨g, 0, none⟩ = some (.slice A n c)) (hc' : w.cell? ⟨g, 1, none⟩ = some (.slice A' n' c')) (hn : n ≤ m) (hn' : n' ≤ m) :
    Calls Tryd.prog 14 #[.int .i64 (m : Int), .slice (some ⟨g, 0, none⟩) 2 2] w fun e w' => e = .returned (.bool true) ∧ w = w' := by
  have h1 : ¬ m < n := by omega
  have h2 : ¬ m < n' := by omega
  go_enter Tryd.func14, Tryd.ntmps14
  go_wp2_with fail
  refine wp_loop_rounds 3 ?_
  rw [rounds_succ]
  go_wp2_with fail
  rw [rounds_succ]
  go_wp2_with fail
  rw [rounds_succ]
  go_wp2_with fail
  go_ret
  exact ⟨rfl, rfl⟩
set_option maxRecDepth 100000 in
theorem smallb_first {g m : Nat} (hc : w.cell? ⟨g, 0, none⟩ = some (.slice A n c)) (hn : m < n) :
    Calls Tryd.prog 14 #[.int .i64 (m : Int), .slice (some ⟨g, 0, none⟩) 2 2] w fun e w' => e = .returned (.bool false) ∧ w = w' := by
  go_enter Tryd.func14, Tryd.ntmps14
  go_wp2_with fail
  refine wp_loop_rounds 1 ?_
  rw [rounds_succ]
  go_wp2_with fail
  go_ret
  exact ⟨rfl, rfl⟩
set_option maxRecDepth 100000 in
theorem smallb_second {g m : Nat} (hc : w.cell? ⟨g, 0, none⟩ = some (.slice A n c)) (hc' : w.cell? ⟨g, 1, none⟩ = some (.slice A' n' c')) (hn : n ≤ m) (hn' : m < n') :
    Calls Tryd.prog 14 #[.int .i64 (m : Int), .slice (some ⟨g, 0, none⟩) 2 2] w fun e w' => e = .returned (.bool false) ∧ w = w' := by
  have h1 : ¬ m < n := by omega
  go_enter Tryd.func14, Tryd.ntmps14
  go_wp2_with fail
  refine wp_loop_rounds 2 ?_
  rw [rounds_succ]
  go_wp2_with fail
  rw [rounds_succ]
  go_wp2_with fail
  go_ret
  exact ⟨rfl, rfl⟩
end
end Go.Proofs.YtacfdcfkfjildaaDoor
