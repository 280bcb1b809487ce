/-
  A region that draws its order, inside a fence: one relation is kept by each operation, whatever the order is.
-/
import Derived.Test.YthmmnmajkeoaaabGreatDoorOBox
import Derived.Test.YthmmnmajkeoaaabGreatDoorOOrd
import Derived.OrdersIn
namespace Go.Proofs.YthmmnmajkeoaaabGreatDoor
open Go Go.RowKit
section
variable {F : Fence} {N : Nat} {P : Program} {ops : Array Oper} {Q : Exit → Act → World → Prop} {md : Region.Mode} {I : Array Bool → Act → World → Prop}
/-- How many have not come up. -/
def left_ (l : Array Bool) : Nat := l.toList.count false
theorem dep_set {listed : Array Bool} {i m : Nat} (hne : i ≠ m) (h : (listed.setIfInBounds i true).getD m false = true) : listed.getD m false = true := by
  simpa [Array.getElem?_setIfInBounds_ne hne] using h
theorem dep_of {i : Nat} {o : Oper} {listed : Array Bool} (hi : i ∈ Region.ready md ops listed) (ho : ops[i]? = some o) (j : Nat) (hb : (o.after.any fun e => e.on == j && Region.binds md e) = true) : listed.getD j false = true := by
  obtain ⟨_, o', ho', hall⟩ := mem_ready.1 hi
  rw [ho] at ho'
  injection ho' with ho'
  subst ho'
  rw [Array.any_eq_true'] at hb
  obtain ⟨e, he, hb⟩ := hb
  rw [Bool.and_eq_true, beq_iff_eq] at hb
  rw [← hb.1]
  exact hall e he hb.2
theorem left_set {listed : Array Bool} {i : Nat} (h : listed.getD i true = false) : left_ (listed.setIfInBounds i true) + 1 = left_ listed := by
  obtain ⟨l⟩ := listed
  have hi : i < l.length := by
    rcases Nat.lt_or_ge i l.length with h1 | h1
    · exact h1
    · simp [h1] at h
  have hl : l[i] = false := by simpa [hi] using h
  have hc : 0 < l.count false := List.count_pos_iff.2 (hl ▸ List.getElem_mem hi)
  unfold left_
  simp only [List.setIfInBounds_toArray]
  rw [List.count_set hi, hl]
  simp
  omega
/-- Each operation waits for earlier ones alone. -/
def backB (md : Region.Mode) (ops : Array Oper) : Bool := (List.range ops.size).all fun i => match ops[i]? with | some o => o.after.all fun e => !Region.binds md e || decide (e.on < i) | none => true
theorem ready_all {listed : Array Bool} (hb : backB md ops = true) (hs : listed.size = ops.size) (h : Region.ready md ops listed = []) (i : Nat) : i < ops.size → listed.getD i true = true := by
  induction i using Nat.strongRecOn with
  | _ i ih =>
    intro hi
    cases hx : listed.getD i true with
    | true => rfl
    | false =>
      have ho : ops[i]? = some ops[i] := Array.getElem?_eq_getElem hi
      have h1 := List.all_eq_true.1 hb i (List.mem_range.2 hi)
      simp only [ho] at h1
      have h2 : i ∈ Region.ready md ops listed := mem_ready.2 ⟨hx, _, ho, fun e he hbe => by
        have h3 : e.on < i := by
          have := Array.all_eq_true_iff_forall_mem.1 h1 e he
          rw [hbe] at this
          simpa using this
        have h4 := ih e.on h3 (by omega)
        have h5 : e.on < listed.size := by omega
        simpa [h5] using h4⟩
      rw [h] at h2
      cases h2
theorem all_listed {listed : Array Bool} {n : Nat} (hs : listed.size = n) (h : ∀ i, i < n → listed.getD i true = true) : listed = Array.replicate n true := by
  refine Array.ext (by simp [hs]) fun i h1 h2 => ?_
  have := h i (by omega)
  simpa [h1] using this
/-- What an operation waits for, in any number of steps. -/
def reach (md : Region.Mode) (ops : Array Oper) : Nat → Nat → List Nat
  | 0, _ => []
  | f + 1, i => match ops[i]? with | none => [] | some o => (o.after.toList.filter (Region.binds md)).flatMap fun e => e.on :: reach md ops f e.on
/-- Whatever has come up, what it waits for has come up. -/
def Closed (md : Region.Mode) (ops : Array Oper) (listed : Array Bool) : Prop := ∀ (j : Nat) (o : Oper), ops[j]? = some o → listed.getD j false = true → ∀ e ∈ o.after, Region.binds md e = true → listed.getD e.on false = true
theorem Closed.set {listed : Array Bool} {i : Nat} (h : Closed md ops listed) (hi : i ∈ Region.ready md ops listed) : Closed md ops (listed.setIfInBounds i true) := fun j o ho hj e he hb => by
  obtain ⟨hf, o', ho', hall⟩ := mem_ready.1 hi
  have key : listed.getD e.on false = true := by
    by_cases hji : j = i
    · subst hji; rw [ho] at ho'; injection ho' with ho'; subst ho'; exact hall e he hb
    · exact h j o ho (dep_set (Ne.symm hji) hj) e he hb
  by_cases hei : e.on = i
  · rw [hei] at key
    rcases Nat.lt_or_ge i listed.size with h1 | h1
    · simp [h1] at hf key; rw [hf] at key; cases key
    · simp [h1] at hf
  · simpa [Array.getElem?_setIfInBounds_ne (Ne.symm hei)] using key
theorem not_yet {listed : Array Bool} (hc : Closed md ops listed) {i m : Nat} {o : Oper} (hi : i ∈ Region.ready md ops listed) (ho : ops[m]? = some o) (hb : (o.after.any fun e => e.on == i && Region.binds md e) = true) : listed.getD m false = false := by
  cases hx : listed.getD m false with
  | false => rfl
  | true =>
    rw [Array.any_eq_true'] at hb
    obtain ⟨e, he, hb⟩ := hb
    rw [Bool.and_eq_true, beq_iff_eq] at hb
    have h1 := hc m o ho hx e he hb.2
    rw [hb.1] at h1
    have h2 := (mem_ready.1 hi).1
    rcases Nat.lt_or_ge i listed.size with h3 | h3
    · simp [h3] at h1 h2; rw [h1] at h2; cases h2
    · simp [h3] at h1
theorem ready_off {listed : Array Bool} {i : Nat} (hi : i ∈ Region.ready md ops listed) : listed.getD i false = false := by
  have h2 := (mem_ready.1 hi).1
  rcases Nat.lt_or_ge i listed.size with h3 | h3
  · simpa [h3] using h2
  · simp [h3]
theorem set_on {listed : Array Bool} {i : Nat} (hi : i ∈ Region.ready md ops listed) : (listed.setIfInBounds i true).getD i false = true := by
  have h2 := (mem_ready.1 hi).1
  rcases Nat.lt_or_ge i listed.size with h3 | h3
  · simp [h3]
  · simp [h3] at h2
theorem getD_keep {listed : Array Bool} {i m : Nat} (hne : i ≠ m) : (listed.setIfInBounds i true).getD m false = listed.getD m false := by
  simp [Array.getElem?_setIfInBounds_ne hne]
/-- A block that holds V where b says so, and Z where it does not. -/
def BoxS (b : Bool) (w : World) (g : Nat) (V Z : Array Value) (t : TypeId) : Prop := Box w g (bif b then V else Z) t
theorem BoxS.on {b : Bool} {w : World} {g : Nat} {V Z : Array Value} {t : TypeId} (h : BoxS b w g V Z t) (hb : b = true) : Box w g V t := by subst hb; exact h
theorem BoxS.off {b : Bool} {w : World} {g : Nat} {V Z : Array Value} {t : TypeId} (h : BoxS b w g V Z t) (hb : b = false) : Box w g Z t := by subst hb; exact h
theorem BoxS.mk1 {b : Bool} {w : World} {g : Nat} {V Z : Array Value} {t : TypeId} (h : Box w g V t) (hb : b = true) : BoxS b w g V Z t := by subst hb; exact h
theorem BoxS.mk0 {b : Bool} {w : World} {g : Nat} {V Z : Array Value} {t : TypeId} (h : Box w g Z t) (hb : b = false) : BoxS b w g V Z t := by subst hb; exact h
theorem BoxS.below {b : Bool} {w w' : World} {g : Nat} {V Z : Array Value} {t : TypeId} (h : BoxS b w g V Z t) (hb : Below w.heap.size w w') : BoxS b w' g V Z t := Box.below h hb
/-- Each of these, where it may come up, keeps the relation. -/
def StepsIn (F : Fence) (N : Nat) (P : Program) (md : Region.Mode) (ops : Array Oper) (Q : Exit → Act → World → Prop) (I : Array Bool → Act → World → Prop) (rs : List Nat) : Prop :=
  ∀ i ∈ rs, ∀ listed a w, Closed md ops listed → I listed a w → i ∈ Region.ready md ops listed → wpOpIn F N P ops Q i (I (listed.setIfInBounds i true)) a w
theorem StepsIn.nil : StepsIn F N P md ops Q I [] := fun _ h => by cases h
theorem StepsIn.cons {i : Nat} {o : Oper} {rs : List Nat} (ho : ops[i]? = some o)
    (h : ∀ listed a w, Closed md ops listed → I listed a w → i ∈ Region.ready md ops listed → ∀ K' : Act → World → Prop, Shut (∀ a w, I (listed.setIfInBounds i true) a w → K' a w) → if Region.wanted o (yielded ops a.tmps) = true then Oper.wpIn F N P o a w K' Q else (∀ f, o.about P w a.eval = some f → F.fn f) ∧ K' (a.put o.dst undef) w)
    (hs : StepsIn F N P md ops Q I rs) : StepsIn F N P md ops Q I (i :: rs) := fun j hj => by
  rcases List.mem_cons.1 hj with rfl | hj
  · exact fun l a w hC hI hr => wpOpIn_step ho (fun K' hK => h l a w hC hI hr K' hK)
  · exact hs j hj
theorem reach_listed {listed : Array Bool} (hc : Closed md ops listed) : ∀ (f i : Nat), (listed.getD i false = true ∨ i ∈ Region.ready md ops listed) → ∀ j ∈ reach md ops f i, listed.getD j false = true
  | 0, _, _, _, hj => by cases hj
  | f + 1, i, h, j, hj => by
    unfold reach at hj
    cases ho : ops[i]? with
    | none => rw [ho] at hj; cases hj
    | some o =>
      simp only [ho] at hj
      obtain ⟨e, he, hj⟩ := List.mem_flatMap.1 hj
      obtain ⟨he, hb⟩ := List.mem_filter.1 he
      have he : e ∈ o.after := by simpa using he
      have h1 : listed.getD e.on false = true := by
        rcases h with h | h
        · exact hc i o ho h e he hb
        · obtain ⟨_, o', ho', hall⟩ := mem_ready.1 h
          rw [ho] at ho'; injection ho' with ho'; subst ho'
          exact hall e he hb
      rcases List.mem_cons.1 hj with rfl | hj
      · exact h1
      · exact reach_listed hc f e.on (.inl h1) j hj
/-- All operations from the m-th on wait for all those before it. -/
def waitB (md : Region.Mode) (ops : Array Oper) (m : Nat) : Bool := (List.range ops.size).all fun i => decide (i < m) || (List.range m).all fun j => (reach md ops ops.size i).contains j
theorem wpAnyIn_upto {m k : Nat} (hb : backB md ops = true) (hm : m + k = ops.size) (hw : waitB md ops m = true) (step : StepsIn F N P md ops Q I (List.range m))
    (fin : ∀ a w, I (Array.replicate m true ++ Array.replicate k false) a w → wpAnyIn F N P md ops Q k (Array.replicate m true ++ Array.replicate k false) a w) :
    ∀ (n : Nat) (listed : Array Bool) (a : Act) (w : World), left_ listed = n → listed.size = ops.size → Closed md ops listed → (∀ i, m ≤ i → i < ops.size → listed.getD i true = false) → I listed a w → wpAnyIn F N P md ops Q n listed a w := by
  intro n
  induction n with
  | zero =>
    intro listed a w hn hs hc hlo hI
    rcases hrd : Region.ready md ops listed with _ | ⟨i, t⟩
    · have hall := all_listed hs (ready_all hb hs hrd)
      have hk : k = 0 := by
        rcases Nat.eq_zero_or_pos k with h | h
        · exact h
        · have h1 := hlo m (Nat.le_refl _) (by omega)
          have h2 := ready_all hb hs hrd m (by omega)
          rw [h1] at h2; cases h2
      subst hk
      have e : listed = Array.replicate m true ++ Array.replicate 0 false := by rw [hall, ← hm]; simp
      subst e
      exact fin a w hI
    · have h3 : i ∈ Region.ready md ops listed := by rw [hrd]; exact List.mem_cons_self
      have h4 := left_set (mem_ready.1 h3).1
      omega
  | succ n ih =>
    intro listed a w hn hs hc hlo hI
    by_cases hall : ∀ i, i < m → listed.getD i true = true
    · have e : listed = Array.replicate m true ++ Array.replicate k false := by
        refine Array.ext (by simp [hs, hm]) fun i h1 h2 => ?_
        rcases Nat.lt_or_ge i m with h | h
        · have h5 := hall i h
          rw [Array.getElem_append_left (by simpa using h)]
          simpa [h1] using h5
        · have h5 := hlo i h (by omega)
          rw [Array.getElem_append_right (by simpa using h)]
          simpa [h1] using h5
      have hk : n + 1 = k := by rw [← hn, e]; simp [left_, List.count_append, List.count_replicate]
      rw [hk]
      subst e
      exact fin a w hI
    · have hne : ∀ i ∈ Region.ready md ops listed, i < m := fun i hi => by
        rcases Nat.lt_or_ge i m with h | h
        · exact h
        · refine absurd (fun j hj => ?_) hall
          obtain ⟨_, o, ho, _⟩ := mem_ready.1 hi
          have hlt : i < ops.size := (Array.getElem?_eq_some_iff.1 ho).1
          have h1 := List.all_eq_true.1 hw i (List.mem_range.2 hlt)
          rw [Bool.or_eq_true] at h1
          rcases h1 with h1 | h1
          · have := of_decide_eq_true h1; omega
          · have h2 := List.all_eq_true.1 h1 j (List.mem_range.2 hj)
            have h3 := reach_listed hc ops.size i (.inr hi) j (by simpa using h2)
            have h5 : j < listed.size := by omega
            simpa [h5] using h3
      refine ⟨fun h0 => absurd (fun i hi => ready_all hb hs h0 i (by omega)) hall, fun i hi => ?_⟩
      have h4 := left_set (mem_ready.1 hi).1
      refine wpOpIn_mono (fun a' w' h => ih _ a' w' (by omega) (by simpa using hs) (hc.set hi) (fun j h1 h2 => ?_) h) (step i (List.mem_range.2 (hne i hi)) listed a w hc hI hi)
      have hij : i ≠ j := by have := hne i hi; omega
      have := hlo j h1 h2
      simpa [Array.getElem?_setIfInBounds_ne hij] using this
theorem wpIn_region_upto {id m k : Nat} {a : Act} {w : World} (hx : P.follows .mixedOrders = true) (hb : backB .any ops = true) (hm : m + k = ops.size) (hw : waitB .any ops m = true) (h0 : I (Array.replicate ops.size false) a w.drew)
    (step : StepsIn F N P .any ops Q I (List.range m))
    (fin : ∀ a w, I (Array.replicate m true ++ Array.replicate k false) a w → wpAnyIn F N P .any ops Q k (Array.replicate m true ++ Array.replicate k false) a w) : (Code.region id ops true).wpIn F N P Q a w :=
  wpIn_region_any hx (wpAnyIn_upto hb hm hw step fin _ _ _ _ (by simp [left_]) (by simp) (fun j o _ h => by rcases Nat.lt_or_ge j ops.size with h1 | h1 <;> simp [h1] at h) (fun i _ h => by simp [h]) h0)
theorem region_named {id : Nat} {fl : Bool} {a : Act} {w : World} (h : ∀ Ac, Ac = a → (Code.region id ops fl).wpIn F N P Q Ac w) : (Code.region id ops fl).wpIn F N P Q a w := h a rfl
end
end Go.Proofs.YthmmnmajkeoaaabGreatDoor
