/-
  Lengths of sets: sums of spans, and measures over the gaps of a common list of numbers.
-/
import Derived.Test.YtfdlkbbepkghmaaGreatDoorVEM
namespace Go.Proofs.YtfdlkbbepkghmaaGreatDoor
/-- Both ends are there. -/
def BothS (l : List Sp) : Prop := ∀ s ∈ l, ∃ a b, s = ⟨some a, some b⟩
/-- The sum of the lengths of spans that have both ends. -/
def sumS : List Sp → Rat
  | [] => 0
  | s :: l => (match s.lo, s.hi with | some a, some b => b - a | _, _ => 0) + sumS l
theorem sumS_app (l m : List Sp) : sumS (l ++ m) = sumS l + sumS m := by
  induction l with
  | nil => show sumS m = 0 + sumS m; grind
  | cons s l ih => show _ + sumS (l ++ m) = _ + sumS l + sumS m; rw [ih]; grind
/-- The measure of a set from c on, up to e. -/
def lenB : Bool → Rat → List Rat → Rat → Rat
  | g, c, [], e => if g then e - c else 0
  | g, c, t :: ts, e => (if g then t - c else 0) + lenB (!g) t ts e
/-- The measure of what is marked, over the gaps between numbers. -/
def gsum (f : Rat → Bool) : Rat → List Rat → Rat
  | _, [] => 0
  | c, d :: ds => (if f ((c + d) / 2) then d - c else 0) + gsum f d ds
def lastR : Rat → List Rat → Rat
  | c, [] => c
  | _, d :: ds => lastR d ds
theorem lenB_mkS {ts : List Rat} : (finT false ts = false → ∀ c e, lenB false c ts e = sumS (mkS none ts) ∧ BothS (mkS none ts)) ∧ (finT true ts = false → ∀ c a e, lenB true c ts e = sumS (mkS (some (some a)) ts) + (a - c) ∧ BothS (mkS (some (some a)) ts)) := by
  induction ts with
  | nil => exact ⟨fun _ c e => ⟨rfl, fun s h => (by cases h)⟩, fun h => (by cases h)⟩
  | cons t ts ih =>
    refine ⟨fun h c e => ?_, fun h c a e => ?_⟩
    · obtain ⟨h1, h2⟩ := ih.2 h t t e
      refine ⟨?_, h2⟩
      show 0 + lenB true t ts e = sumS (mkS (some (some t)) ts)
      rw [h1]; grind
    · obtain ⟨h1, h2⟩ := ih.1 h t e
      refine ⟨?_, fun s hs => ?_⟩
      · show (t - c) + lenB false t ts e = ((t - a) + sumS (mkS none ts)) + (a - c)
        rw [h1]; grind
      · rcases List.mem_cons.1 hs with rfl | hs
        · exact ⟨a, t, rfl⟩
        · exact h2 s hs
theorem gsum_congr {f f' : Rat → Bool} {cs : List Rat} : ∀ {c : Rat}, Asc cs → (∀ u ∈ cs, c < u) → (∀ x, c < x → x ∉ cs → f x = f' x) → gsum f c cs = gsum f' c cs := by
  induction cs with
  | nil => intros; rfl
  | cons d ds ih =>
    intro c ha hb h
    have hcd := hb d (List.mem_cons_self ..)
    have hm := mid_lt hcd
    have e1 : f ((c + d) / 2) = f' ((c + d) / 2) := h _ hm.1 fun hh => by
      rcases List.mem_cons.1 hh with e | hh
      · grind
      · have := ha.1 _ hh; grind
    show (if f ((c + d) / 2) then d - c else 0) + gsum f d ds = (if f' ((c + d) / 2) then d - c else 0) + gsum f' d ds
    rw [e1, ih ha.2 ha.1 fun x hx hn => h x (by grind) fun hh => by
      rcases List.mem_cons.1 hh with e | hh
      · grind
      · exact hn hh]
/-- Any finer list of numbers gives the measure. -/
theorem gsum_len {cs : List Rat} : ∀ {g : Bool} {c : Rat} {ts : List Rat}, Asc cs → (∀ u ∈ cs, c < u) → Asc ts → (∀ t ∈ ts, t ∈ cs) → gsum (evT g ts) c cs = lenB g c ts (lastR c cs) := by
  induction cs with
  | nil =>
    intro g c ts _ _ _ hs
    cases ts with
    | nil => show (0 : Rat) = if g then c - c else 0; cases g <;> simp <;> grind
    | cons t ts => cases hs t (List.mem_cons_self ..)
  | cons d ds ih =>
    intro g c ts ha hb ht hs
    have hcd := hb d (List.mem_cons_self ..)
    have hm := mid_lt hcd
    show (if evT g ts ((c + d) / 2) then d - c else 0) + gsum (evT g ts) d ds = lenB g c ts (lastR d ds)
    have low : ∀ t ∈ ts, (c + d) / 2 < t := fun t h => by
      rcases List.mem_cons.1 (hs t h) with rfl | h2
      · exact hm.2
      · have := ha.1 t h2; grind
    rw [evT_low low]
    cases ts with
    | nil =>
      rw [ih (g := g) (ts := []) ha.2 ha.1 trivial fun t h => (by cases h)]
      show (if g then d - c else 0) + (if g then lastR d ds - d else 0) = if g then lastR d ds - c else 0
      cases g <;> simp <;> grind
    | cons t ts =>
      by_cases e : t = d
      · subst e
        rw [gsum_congr (f' := evT (!g) ts) ha.2 ha.1 fun x hx _ => by
          show (if t < x then evT (!g) ts x else g) = _
          rw [if_pos hx]]
        rw [ih ha.2 ha.1 ht.2 fun u hu => by
          rcases List.mem_cons.1 (hs u (List.mem_cons_of_mem _ hu)) with rfl | h
          · exact absurd (ht.1 u hu) (by grind)
          · exact h]
        rfl
      · have hsub : ∀ u ∈ t :: ts, u ∈ ds := fun u hu => by
          rcases List.mem_cons.1 (hs u hu) with rfl | h
          · exfalso
            rcases List.mem_cons.1 hu with e2 | hu
            · exact e e2.symm
            · have h1 := ht.1 u hu
              rcases List.mem_cons.1 (hs t (List.mem_cons_self ..)) with e3 | h3
              · exact e e3
              · have := ha.1 t h3; grind
          · exact h
        rw [ih ha.2 ha.1 ht hsub]
        show (if g then d - c else 0) + ((if g then t - d else 0) + lenB (!g) t ts (lastR d ds)) = (if g then t - c else 0) + lenB (!g) t ts (lastR d ds)
        cases g <;> simp <;> grind
/-- All numbers of four lists, ascending. -/
def insAll (l : List Rat) : List Rat := l.foldr insT []
theorem insAll_asc (l : List Rat) : Asc (insAll l) := by
  induction l with
  | nil => trivial
  | cons t l ih => exact insT_asc ih
theorem insAll_mem {l : List Rat} {t : Rat} : t ∈ insAll l ↔ t ∈ l := by
  induction l with
  | nil => exact Iff.rfl
  | cons u l ih =>
    show t ∈ insT u (insAll l) ↔ _
    rw [insT_mem, ih, List.mem_cons]
theorem ite_add {p q r s : Bool} {x : Rat} (h : ob p + ob q = ob r + ob s) : (if p then x else 0) + (if q then x else 0) = (if r then x else 0) + (if s then x else 0) := by
  revert h
  cases p <;> cases q <;> cases r <;> cases s <;> simp [ob] <;> grind
theorem gsum_add {f1 f2 f3 f4 : Rat → Bool} {cs : List Rat} : ∀ {c : Rat}, Asc cs → (∀ u ∈ cs, c < u) → (∀ x, c < x → x ∉ cs → ob (f1 x) + ob (f2 x) = ob (f3 x) + ob (f4 x)) → gsum f1 c cs + gsum f2 c cs = gsum f3 c cs + gsum f4 c cs := by
  induction cs with
  | nil => intros; rfl
  | cons d ds ih =>
    intro c ha hb h
    have hcd := hb d (List.mem_cons_self ..)
    have hm := mid_lt hcd
    have hmo : (c + d) / 2 ∉ d :: ds := fun hh => by
      rcases List.mem_cons.1 hh with e | hh
      · grind
      · have := ha.1 _ hh; grind
    have h1 := ite_add (x := d - c) (h _ hm.1 hmo)
    have h2 := ih ha.2 ha.1 fun x hx hn => h x (by grind) fun hh => by
      rcases List.mem_cons.1 hh with e | hh
      · grind
      · exact hn hh
    show ((if f1 ((c + d) / 2) then d - c else 0) + gsum f1 d ds) + ((if f2 ((c + d) / 2) then d - c else 0) + gsum f2 d ds) = ((if f3 ((c + d) / 2) then d - c else 0) + gsum f3 d ds) + ((if f4 ((c + d) / 2) then d - c else 0) + gsum f4 d ds)
    grind
theorem evT_high {g : Bool} {ts : List Rat} {x : Rat} (h : ∀ t ∈ ts, t < x) : evT g ts x = finT g ts := by
  induction ts generalizing g with
  | nil => rfl
  | cons t ts ih =>
    show (if t < x then evT (!g) ts x else g) = finT (!g) ts
    rw [if_pos (h t (List.mem_cons_self ..))]
    exact ih fun u hu => h u (List.mem_cons_of_mem _ hu)
theorem high (l : List Rat) : ∃ a, ∀ u ∈ l, u < a := by
  induction l with
  | nil => exact ⟨0, fun u hu => by cases hu⟩
  | cons v l ih =>
    obtain ⟨a, h⟩ := ih
    by_cases hv : v < a
    · exact ⟨a, fun u hu => by
        rcases List.mem_cons.1 hu with rfl | hu
        · exact hv
        · exact h u hu⟩
    · exact ⟨v + 1, fun u hu => by
        rcases List.mem_cons.1 hu with rfl | hu
        · grind
        · have := h u hu; grind⟩
theorem mkS_half {ts : List Rat} : (finT false ts = false → 2 * (mkS none ts).length = ts.length) ∧ (finT true ts = false → ∀ lo, 2 * (mkS (some lo) ts).length = ts.length + 1) := by
  induction ts with
  | nil => exact ⟨fun _ => rfl, fun h => (by cases h)⟩
  | cons t ts ih =>
    refine ⟨fun h => ?_, fun h lo => ?_⟩
    · show 2 * (mkS (some (some t)) ts).length = ts.length + 1
      exact ih.2 h _
    · show 2 * ((mkS none ts).length + 1) = ts.length + 1 + 1
      have := ih.1 h; omega
/-- A set is bounded. -/
def Bnd (g : Bool) (ts : List Rat) : Prop := g = false ∧ finT false ts = false
theorem Bnd.of {g : Bool} {ts : List Rat} (h : ∃ l : List Rat, ∃ a b, (∀ x, x < a → x ∉ l → x ∉ ts → evT g ts x = false) ∧ ∀ x, b < x → x ∉ l → x ∉ ts → evT g ts x = false) : Bnd g ts := by
  obtain ⟨l, a, b, h1, h2⟩ := h
  obtain ⟨x, hx⟩ := low (a :: (l ++ ts))
  obtain ⟨y, hy⟩ := high (b :: (l ++ ts))
  have off : ∀ {z : Rat} {m : List Rat}, (∀ u ∈ m, z < u) ∨ (∀ u ∈ m, u < z) → z ∉ m := fun h hm => by
    rcases h with h | h
    · have := h _ hm; grind
    · have := h _ hm; grind
  have e1 := h1 x (hx a (List.mem_cons_self ..)) (off (.inl fun u hu => hx u (List.mem_cons_of_mem _ (List.mem_append_left _ hu)))) (off (.inl fun u hu => hx u (List.mem_cons_of_mem _ (List.mem_append_right _ hu))))
  have e2 := h2 y (hy b (List.mem_cons_self ..)) (off (.inr fun u hu => hy u (List.mem_cons_of_mem _ (List.mem_append_left _ hu)))) (off (.inr fun u hu => hy u (List.mem_cons_of_mem _ (List.mem_append_right _ hu))))
  rw [evT_low fun t ht => hx t (List.mem_cons_of_mem _ (List.mem_append_right _ ht))] at e1
  rw [evT_high fun t ht => hy t (List.mem_cons_of_mem _ (List.mem_append_right _ ht)), e1] at e2
  exact ⟨e1, e2⟩
theorem Bnd.both {g : Bool} {ts : List Rat} (h : Bnd g ts) : BothS (spansOf g ts) := by
  obtain ⟨rfl, h⟩ := h
  exact (lenB_mkS.1 h 0 0).2
theorem Bnd.len {g : Bool} {ts : List Rat} (h : Bnd g ts) : 2 * (spansOf g ts).length = ts.length := by
  obtain ⟨rfl, h⟩ := h
  exact mkS_half.1 h
theorem Bnd.sum {g : Bool} {ts cs : List Rat} {c : Rat} (h : Bnd g ts) (ha : Asc cs) (hb : ∀ u ∈ cs, c < u) (ht : Asc ts) (hs : ∀ t ∈ ts, t ∈ cs) : sumS (spansOf g ts) = gsum (evT g ts) c cs := by
  rw [gsum_len ha hb ht hs]
  obtain ⟨rfl, h⟩ := h
  exact ((lenB_mkS.1 h c _).1).symm
/-- The lengths of union and intersection add up. -/
theorem sum_adds {b c : Bool} {ts us vs ws : List Rat} (ht : Asc ts) (hu : Asc us) (hv : Asc vs) (hw : Asc ws) (h1 : Bnd b ts) (h2 : Bnd c us)
    (ev : ∀ x, x ∉ ts → x ∉ us → evT (b || c) vs x = (evT b ts x || evT c us x)) (ew : ∀ x, x ∉ ts → x ∉ us → evT (b && c) ws x = (evT b ts x && evT c us x)) :
    Bnd (b || c) vs ∧ Bnd (b && c) ws ∧ sumS (spansOf b ts) + sumS (spansOf c us) = sumS (spansOf (b || c) vs) + sumS (spansOf (b && c) ws) := by
  obtain ⟨x0, hx0⟩ := low (ts ++ us)
  obtain ⟨y0, hy0⟩ := high (ts ++ us)
  have lo1 : ∀ x, x < x0 → evT b ts x = false := fun x hx => by rw [evT_low fun t h => by have := hx0 t (List.mem_append_left _ h); grind]; exact h1.1
  have lo2 : ∀ x, x < x0 → evT c us x = false := fun x hx => by rw [evT_low fun t h => by have := hx0 t (List.mem_append_right _ h); grind]; exact h2.1
  have hi1 : ∀ x, y0 < x → evT b ts x = false := fun x hx => by rw [evT_high fun t h => by have := hy0 t (List.mem_append_left _ h); grind, h1.1]; exact h1.2
  have hi2 : ∀ x, y0 < x → evT c us x = false := fun x hx => by rw [evT_high fun t h => by have := hy0 t (List.mem_append_right _ h); grind, h2.1]; exact h2.2
  have no : ∀ {x : Rat}, x ∉ ts ++ us → x ∉ ts ∧ x ∉ us := fun h => ⟨fun m => h (List.mem_append_left _ m), fun m => h (List.mem_append_right _ m)⟩
  have B1 : Bnd (b || c) vs := Bnd.of ⟨ts ++ us, x0, y0, fun x hx hn _ => by rw [ev x (no hn).1 (no hn).2, lo1 x hx, lo2 x hx]; rfl, fun x hx hn _ => by rw [ev x (no hn).1 (no hn).2, hi1 x hx, hi2 x hx]; rfl⟩
  have B2 : Bnd (b && c) ws := Bnd.of ⟨ts ++ us, x0, y0, fun x hx hn _ => by rw [ew x (no hn).1 (no hn).2, lo1 x hx]; rfl, fun x hx hn _ => by rw [ew x (no hn).1 (no hn).2, hi1 x hx]; rfl⟩
  refine ⟨B1, B2, ?_⟩
  obtain ⟨c0, hc0⟩ := low (insAll (ts ++ us ++ vs ++ ws))
  have A := insAll_asc (ts ++ us ++ vs ++ ws)
  have M : ∀ {t : Rat}, t ∈ ts ++ us ++ vs ++ ws → t ∈ insAll (ts ++ us ++ vs ++ ws) := fun h => insAll_mem.2 h
  rw [h1.sum A hc0 ht fun t h => M (by simp [h]), h2.sum A hc0 hu fun t h => M (by simp [h]), B1.sum A hc0 hv fun t h => M (by simp [h]), B2.sum A hc0 hw fun t h => M (by simp [h])]
  refine gsum_add A hc0 fun x _ hn => ?_
  have m1 : x ∉ ts := fun h => hn (M (by simp [h]))
  have m2 : x ∉ us := fun h => hn (M (by simp [h]))
  rw [ev x m1 m2, ew x m1 m2]
  cases evT b ts x <;> cases evT c us x <;> rfl
end Go.Proofs.YtfdlkbbepkghmaaGreatDoor
