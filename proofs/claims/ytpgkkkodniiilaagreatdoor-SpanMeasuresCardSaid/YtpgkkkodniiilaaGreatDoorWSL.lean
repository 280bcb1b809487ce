/-
  SpLm, SpMm in one text.
-/
import Derived.Test.YtpgkkkodniiilaaGreatDoorWSpN
namespace Go.Proofs.YtpgkkkodniiilaaGreatDoor
/-- Both ends are there. -/
def BothS (l : List Sp) : Prop := ∀ s ∈ l, ∃ a b, s = ⟨some a, some b⟩
/-- The sum of the lengths of spans that have both ends. -/
def sumS : List Sp → Rat
  | [] => 0
  | s :: l => (match s.lo, s.hi with | some a, some b => b - a | _, _ => 0) + sumS l
theorem sumS_app (l m : List Sp) : sumS (l ++ m) = sumS l + sumS m := by
  induction l with
  | nil => show sumS m = 0 + sumS m; grind
  | cons s l ih => show _ + sumS (l ++ m) = _ + sumS l + sumS m; rw [ih]; grind
/-- The measure of a set from c on, up to e. -/
def lenB : Bool → Rat → List Rat → Rat → Rat
  | g, c, [], e => if g then e - c else 0
  | g, c, t :: ts, e => (if g then t - c else 0) + lenB (!g) t ts e
theorem lenB_mkS {ts : List Rat} : (finT false ts = false → ∀ c e, lenB false c ts e = sumS (mkS none ts) ∧ BothS (mkS none ts)) ∧ (finT true ts = false → ∀ c a e, lenB true c ts e = sumS (mkS (some (some a)) ts) + (a - c) ∧ BothS (mkS (some (some a)) ts)) := by
  induction ts with
  | nil => exact ⟨fun _ c e => ⟨rfl, fun s h => (by cases h)⟩, fun h => (by cases h)⟩
  | cons t ts ih =>
    refine ⟨fun h c e => ?_, fun h c a e => ?_⟩
    · obtain ⟨h1, h2⟩ := ih.2 h t t e
      refine ⟨?_, h2⟩
      show 0 + lenB true t ts e = sumS (mkS (some (some t)) ts)
      rw [h1]; grind
    · obtain ⟨h1, h2⟩ := ih.1 h t e
      refine ⟨?_, fun s hs => ?_⟩
      · show (t - c) + lenB false t ts e = ((t - a) + sumS (mkS none ts)) + (a - c)
        rw [h1]; grind
      · rcases List.mem_cons.1 hs with rfl | hs
        · exact ⟨a, t, rfl⟩
        · exact h2 s hs
theorem high (l : List Rat) : ∃ a, ∀ u ∈ l, u < a := by
  induction l with
  | nil => exact ⟨0, fun u hu => by cases hu⟩
  | cons v l ih =>
    obtain ⟨a, h⟩ := ih
    by_cases hv : v < a
    · exact ⟨a, fun u hu => by
        rcases List.mem_cons.1 hu with rfl | hu
        · exact hv
        · exact h u hu⟩
    · exact ⟨v + 1, fun u hu => by
        rcases List.mem_cons.1 hu with rfl | hu
        · grind
        · have := h u hu; grind⟩
theorem mkS_half {ts : List Rat} : (finT false ts = false → 2 * (mkS none ts).length = ts.length) ∧ (finT true ts = false → ∀ lo, 2 * (mkS (some lo) ts).length = ts.length + 1) := by
  induction ts with
  | nil => exact ⟨fun _ => rfl, fun h => (by cases h)⟩
  | cons t ts ih =>
    refine ⟨fun h => ?_, fun h lo => ?_⟩
    · show 2 * (mkS (some (some t)) ts).length = ts.length + 1
      exact ih.2 h _
    · show 2 * ((mkS none ts).length + 1) = ts.length + 1 + 1
      have := ih.1 h; omega
/-- A set is bounded. -/
def Bnd (g : Bool) (ts : List Rat) : Prop := g = false ∧ finT false ts = false
theorem Bnd.both {g : Bool} {ts : List Rat} (h : Bnd g ts) : BothS (spansOf g ts) := by
  obtain ⟨rfl, h⟩ := h
  exact (lenB_mkS.1 h 0 0).2
theorem Bnd.len {g : Bool} {ts : List Rat} (h : Bnd g ts) : 2 * (spansOf g ts).length = ts.length := by
  obtain ⟨rfl, h⟩ := h
  exact mkS_half.1 h
end Go.Proofs.YtpgkkkodniiilaaGreatDoor
namespace Go.Proofs.YtpgkkkodniiilaaGreatDoor
def bothB (s : Sp) : Bool := s.lo.isSome && s.hi.isSome
/-- As many numbers as make pairs. -/
def evenT : List Rat → List Rat
  | t :: u :: ts => t :: u :: evenT ts
  | _ => []
theorem evenT_sub : ∀ {ts : List Rat}, ∀ t ∈ evenT ts, t ∈ ts
  | [], t, h => by cases h
  | [_], t, h => by cases h
  | a :: u :: ts, t, h => by
    rcases List.mem_cons.1 (show t ∈ a :: u :: evenT ts from h) with rfl | h
    · exact List.mem_cons_self ..
    · rcases List.mem_cons.1 h with rfl | h
      · exact List.mem_cons_of_mem _ (List.mem_cons_self ..)
      · exact List.mem_cons_of_mem _ (List.mem_cons_of_mem _ (evenT_sub t h))
theorem evenT_asc : ∀ {ts : List Rat}, Asc ts → Asc (evenT ts)
  | [], _ => trivial
  | [_], _ => trivial
  | a :: u :: ts, h => ⟨fun t ht => by
      rcases List.mem_cons.1 ht with rfl | ht
      · exact h.1 _ (List.mem_cons_self ..)
      · exact h.1 _ (List.mem_cons_of_mem _ (evenT_sub t ht)), fun t ht => h.2.1 _ (evenT_sub t ht), evenT_asc h.2.2⟩
theorem evenT_len : ∀ {ts : List Rat}, (evenT ts).length ≤ ts.length
  | [] => Nat.le_refl _
  | [_] => Nat.zero_le _
  | _ :: _ :: ts => by have := @evenT_len ts; show (evenT ts).length + 1 + 1 ≤ ts.length + 1 + 1; omega
theorem evenT_fin : ∀ {ts : List Rat}, finT false (evenT ts) = false
  | [] => rfl
  | [_] => rfl
  | _ :: _ :: ts => @evenT_fin ts
theorem filt_mkS : ∀ {ts : List Rat}, (mkS none ts).filter bothB = mkS none (evenT ts)
  | [] => rfl
  | [_] => rfl
  | a :: u :: ts => by
    show (⟨some a, some u⟩ :: mkS none ts).filter bothB = ⟨some a, some u⟩ :: mkS none (evenT ts)
    rw [List.filter_cons_of_pos rfl, filt_mkS]
theorem filt_set {g : Bool} {ts : List Rat} : (spansOf g ts).filter bothB = spansOf false (evenT (if g then ts.drop 1 else ts)) := by
  cases g
  · exact filt_mkS
  · cases ts with
    | nil => rfl
    | cons t ts =>
      show (⟨none, some t⟩ :: mkS none ts).filter bothB = mkS none (evenT ts)
      rw [List.filter_cons_of_neg (by simp [bothB]), filt_mkS]
theorem Asc.tail {ts : List Rat} (h : Asc ts) : Asc (ts.drop 1) := by
  cases ts with
  | nil => exact trivial
  | cons t ts => exact h.2
/-- The filtered set. -/
theorem filt_is {g : Bool} {ts : List Rat} (h : Asc ts) : ∃ us, (spansOf g ts).filter bothB = spansOf false us ∧ Asc us ∧ Bnd false us ∧ us.length ≤ ts.length := by
  refine ⟨_, filt_set, ?_, ⟨rfl, evenT_fin⟩, ?_⟩
  · cases g
    · exact evenT_asc h
    · exact evenT_asc h.tail
  · cases g
    · exact evenT_len
    · exact Nat.le_trans evenT_len (by simp only [if_true, List.length_drop]; omega)
/-- Some span lacks an end, or all have both. -/
theorem both_or (l : List Sp) : BothS l ∨ ∃ i s, l[i]? = some s ∧ bothB s = false ∧ BothS (l.take i) := by
  induction l with
  | nil => exact .inl fun s h => (by cases h)
  | cons s l ih =>
    cases hb : bothB s
    · exact .inr ⟨0, s, rfl, hb, fun s h => (by cases h)⟩
    · have hs : ∃ a b, s = ⟨some a, some b⟩ := by
        obtain ⟨lo, hi⟩ := s
        cases lo <;> cases hi <;> first | exact ⟨_, _, rfl⟩ | cases hb
      rcases ih with h | ⟨i, u, h1, h2, h3⟩
      · exact .inl fun u hu => by
          rcases List.mem_cons.1 hu with rfl | hu
          · exact hs
          · exact h u hu
      · exact .inr ⟨i + 1, u, h1, h2, fun v hv => by
          rcases List.mem_cons.1 (show v ∈ s :: l.take i from hv) with rfl | hv
          · exact hs
          · exact h3 v hv⟩
theorem sumS_take {l : List Sp} {i : Nat} {a b : Rat} (h : l[i]? = some ⟨some a, some b⟩) : sumS (l.take (i + 1)) = sumS (l.take i) + (b - a) := by
  rw [List.take_add_one, h, sumS_app]
  show sumS (l.take i) + ((b - a) + 0) = _
  grind
/-- A number inside a span. -/
def samS (s : Sp) : Rat := match s.lo, s.hi with
  | none, none => 0
  | none, some b => b - 1
  | some a, none => a + 1
  | some a, some b => (a + b) / 2
end Go.Proofs.YtpgkkkodniiilaaGreatDoor
