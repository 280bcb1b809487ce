/-
  A region that draws its order, walked once for each operation: what holds behind each operation that has come up is kept as one relation, whatever the order was.
-/
import Derived.Test.YtancgkmkbgkncaaGreatQOrd
import Derived.Deep.RegionHeld3
namespace Go.Proofs.YtancgkmkbgkncaaGreat
open Go

section
variable {P : Program} {ops : Array Oper} {Q : Exit → Act → World → Prop} {md : Region.Mode} {S : World → Prop} {I : Array Bool → Act → World → Prop}
/-- Each of these, where it may come up, keeps the relation. -/
def AllStepsF (P : Program) (md : Region.Mode) (ops : Array Oper) (Q : Exit → Act → World → Prop) (S : World → Prop) (F : Nat → Bool) (I : Array Bool → Act → World → Prop) (rs : List Nat) : Prop :=
  ∀ i ∈ rs, F i = false ∧ ∀ listed a w, I listed a w → i ∈ Region.ready md ops listed → wpOp P ops Q i (fun a' w' => S w' ∧ I (listed.setIfInBounds i true) a' w') a w
theorem AllStepsF.nil {F : Nat → Bool} : AllStepsF P md ops Q S F I [] := fun _ h => by cases h
theorem AllStepsF.cons {F : Nat → Bool} {i : Nat} {o : Oper} {rs : List Nat} (ho : ops[i]? = some o) (hF : F i = false)
    (h : ∀ listed a w, I listed a w → i ∈ Region.ready md ops listed → ∀ K' : Act → World → Prop, Shut (∀ a w, S w → I (listed.setIfInBounds i true) a w → K' a w) → if Region.wanted o (yielded ops a.tmps) = true then Oper.wp P o a w K' Q else K' (a.put o.dst undef) w)
    (hs : AllStepsF P md ops Q S F I rs) : AllStepsF P md ops Q S F I (i :: rs) := fun j hj => by
  rcases List.mem_cons.1 hj with rfl | hj
  · exact ⟨hF, fun l a w hI hr => wpOp_step ho (fun K' hK => h l a w hI hr K' (fun a w hS hW => hK a w ⟨hS, hW⟩))⟩
  · exact hs j hj
end
end Go.Proofs.YtancgkmkbgkncaaGreat
