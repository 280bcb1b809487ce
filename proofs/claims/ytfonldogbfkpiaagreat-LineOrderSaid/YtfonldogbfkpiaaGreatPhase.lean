/-
  A region that draws its order, walked once for each operation: what holds behind each operation that has come up is kept as one relation, whatever the order was.
-/
import Derived.Test.YtfonldogbfkpiaaGreatOrd
import Derived.Deep.RegionHeld3
namespace Go.Proofs.YtfonldogbfkpiaaGreat
open Go

section
variable {P : Program} {ops : Array Oper} {Q : Exit → Act → World → Prop} {md : Region.Mode} {S : World → Prop} {I : Array Bool → Act → World → Prop}
/-- How many have not come up. -/
def unl (l : Array Bool) : Nat := l.toList.count false
/-- What may come up in each of these states is there, is one of these operations, and leads to one of these states. -/
def closedB (md : Region.Mode) (ops : Array Oper) (rs : List Nat) (full : Array Bool) (states : List (Array Bool)) : Bool :=
  states.all fun l => l == full || (!(Region.ready md ops l).isEmpty && (Region.ready md ops l).all fun i => rs.contains i && states.contains (l.setIfInBounds i true))
theorem set_dep {listed : Array Bool} {i m : Nat} (hne : i ≠ m) (h : (listed.setIfInBounds i true).getD m false = true) : listed.getD m false = true := by
  simpa [Array.getElem?_setIfInBounds_ne hne] using h
theorem ready_dep {i : Nat} {o : Oper} {listed : Array Bool} (hi : i ∈ Region.ready md ops listed) (ho : ops[i]? = some o) (j : Nat) (hb : (o.after.any fun e => e.on == j && Region.binds md e) = true) : listed.getD j false = true := by
  obtain ⟨_, o', ho', hall⟩ := mem_ready.1 hi
  rw [ho] at ho'
  injection ho' with ho'
  subst ho'
  rw [Array.any_eq_true'] at hb
  obtain ⟨e, he, hb⟩ := hb
  rw [Bool.and_eq_true, beq_iff_eq] at hb
  rw [← hb.1]
  exact hall e he hb.2
theorem unl_set {listed : Array Bool} {i : Nat} (h : listed.getD i true = false) : unl (listed.setIfInBounds i true) + 1 = unl listed := by
  obtain ⟨l⟩ := listed
  have hi : i < l.length := by
    rcases Nat.lt_or_ge i l.length with h1 | h1
    · exact h1
    · simp [h1] at h
  have hl : l[i] = false := by simpa [hi] using h
  have hc : 0 < l.count false := List.count_pos_iff.2 (hl ▸ List.getElem_mem hi)
  unfold unl
  simp only [List.setIfInBounds_toArray]
  rw [List.count_set hi, hl]
  simp
  omega
/-- Each of these, where it may come up, keeps the relation. -/
def AllStepsF (P : Program) (md : Region.Mode) (ops : Array Oper) (Q : Exit → Act → World → Prop) (S : World → Prop) (F : Nat → Bool) (I : Array Bool → Act → World → Prop) (rs : List Nat) : Prop :=
  ∀ i ∈ rs, F i = false ∧ ∀ listed a w, I listed a w → i ∈ Region.ready md ops listed → wpOp P ops Q i (fun a' w' => S w' ∧ I (listed.setIfInBounds i true) a' w') a w
theorem AllStepsF.nil {F : Nat → Bool} : AllStepsF P md ops Q S F I [] := fun _ h => by cases h
theorem AllStepsF.cons {F : Nat → Bool} {i : Nat} {o : Oper} {rs : List Nat} (ho : ops[i]? = some o) (hF : F i = false)
    (h : ∀ listed a w, I listed a w → i ∈ Region.ready md ops listed → ∀ K' : Act → World → Prop, Shut (∀ a w, S w → I (listed.setIfInBounds i true) a w → K' a w) → if Region.wanted o (yielded ops a.tmps) = true then Oper.wp P o a w K' Q else K' (a.put o.dst undef) w)
    (hs : AllStepsF P md ops Q S F I rs) : AllStepsF P md ops Q S F I (i :: rs) := fun j hj => by
  rcases List.mem_cons.1 hj with rfl | hj
  · exact ⟨hF, fun l a w hI hr => wpOp_step ho (fun K' hK => h l a w hI hr K' (fun a w hS hW => hK a w ⟨hS, hW⟩))⟩
  · exact hs j hj
theorem wpAnyF_phase {F : Nat → Bool} {rs : List Nat} {full : Array Bool} {states : List (Array Bool)} {k : Nat} (hst : closedB md ops rs full states = true) (hk : unl full = k)
    (step : AllStepsF P md ops Q S F I rs) (fin : ∀ a w, I full a w → wpAnyF P md ops Q S F k full a w) :
    ∀ (n : Nat) (listed : Array Bool) (a : Act) (w : World), unl listed = n → states.contains listed = true → I listed a w → wpAnyF P md ops Q S F n listed a w := by
  intro n
  have hall : ∀ l, states.contains l = true → l = full ∨ (Region.ready md ops l ≠ [] ∧ ∀ i ∈ Region.ready md ops l, i ∈ rs ∧ states.contains (l.setIfInBounds i true) = true) := fun l hl => by
    have h1 := List.all_eq_true.1 hst l (by simpa using hl)
    simp only [Bool.or_eq_true, beq_iff_eq, Bool.and_eq_true, List.all_eq_true, Bool.not_eq_true'] at h1
    rcases h1 with h1 | ⟨h1, h2⟩
    · exact .inl h1
    · refine .inr ⟨?_, ?_⟩
      · intro h0
        rw [h0] at h1
        cases h1
      · intro i hi
        exact ⟨by simpa using (h2 i hi).1, (h2 i hi).2⟩
  induction n with
  | zero =>
    intro listed a w hn hs hI
    rcases hall listed hs with hf | ⟨h2, _⟩
    · subst hf; rw [← hn, hk]; exact fin a w hI
    · rcases hrd : Region.ready md ops listed with _ | ⟨i, t⟩
      · exact absurd hrd h2
      · have h3 : i ∈ Region.ready md ops listed := by rw [hrd]; exact List.mem_cons_self
        have h4 := unl_set (mem_ready.1 h3).1
        omega
  | succ n ih =>
    intro listed a w hn hs hI
    rcases hall listed hs with hf | ⟨h2, h2'⟩
    · subst hf; rw [← hn, hk]; exact fin a w hI
    · refine ⟨fun h0 => absurd h0 h2, fun i hi => ?_⟩
      obtain ⟨h3, h6⟩ := h2' i hi
      have h4 := unl_set (mem_ready.1 hi).1
      have h5 := step i h3
      exact wpOp_mono (fun a' w' h => by rw [if_neg (by rw [h5.1]; simp)]; exact ⟨h.1, ih _ a' w' (by omega) h6 h.2⟩) (h5.2 listed a w hI hi)
theorem wpAnyF_name {F : Nat → Bool} {n n' : Nat} {l l' : Array Bool} {a : Act} {w : World} (hn : n = n') (hl : l = l') (h : ∀ A0, A0 = a → wpAnyF P md ops Q S F n' l' A0 w) : wpAnyF P md ops Q S F n l a w := by subst hn; subst hl; exact h a rfl
theorem wp_region_anyd {id : Nat} {a : Act} {w : World} (hm : P.follows .mixedOrders = true) (h : wpAny P .any ops Q ops.size (Array.replicate ops.size false) a w.drew) : (Code.region id ops true).wp P Q a w := wp_region_any hm h
end
end Go.Proofs.YtfonldogbfkpiaaGreat
