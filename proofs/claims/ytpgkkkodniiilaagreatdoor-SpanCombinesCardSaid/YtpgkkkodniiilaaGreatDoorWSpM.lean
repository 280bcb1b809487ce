/-
  Sets of intervals as a start and ascending numbers at which they turn; nothing here speaks of the program.
-/
import Derived.Test.YtpgkkkodniiilaaGreatDoorWR1
namespace Go.Proofs.YtpgkkkodniiilaaGreatDoor
/-- A span: no bound where there is none. -/
structure Sp where
  lo : Option Rat
  hi : Option Rat
/-- The spans between numbers at which a set turns; the first word: outside, or inside since that lower end. -/
def mkS : Option (Option Rat) → List Rat → List Sp
  | none, [] => []
  | some lo, [] => [⟨lo, none⟩]
  | none, t :: ts => mkS (some (some t)) ts
  | some lo, t :: ts => ⟨lo, some t⟩ :: mkS none ts
/-- The set that begins with b and turns at ts. -/
def spansOf (b : Bool) (ts : List Rat) : List Sp := mkS (if b then some none else none) ts
/-- Whether x lies in that set. -/
def evT : Bool → List Rat → Rat → Bool
  | b, [], _ => b
  | b, t :: ts, x => if t < x then evT (!b) ts x else b
/-- Strictly ascending, all above. -/
def Asc : List Rat → Prop
  | [] => True
  | t :: ts => (∀ u ∈ ts, t < u) ∧ Asc ts
theorem evT_low {b : Bool} {ts : List Rat} {x : Rat} (h : ∀ t ∈ ts, x < t) : evT b ts x = b := by
  cases ts with
  | nil => rfl
  | cons t ts => have := h t (List.mem_cons_self ..); unfold evT; rw [if_neg (by grind)]
theorem mid_lt {a b : Rat} (h : a < b) : a < (a + b) / 2 ∧ (a + b) / 2 < b := by constructor <;> grind
theorem gap (a : Rat) (l : List Rat) : ∃ x, a < x ∧ ∀ u ∈ l, a < u → x < u := by
  induction l with
  | nil => exact ⟨a + 1, by grind, fun u hu => by cases hu⟩
  | cons v l ih =>
    obtain ⟨x, h1, h2⟩ := ih
    by_cases hv : a < v
    · by_cases hx : x < v
      · exact ⟨x, h1, fun u hu h => by
          rcases List.mem_cons.1 hu with rfl | hu
          · exact hx
          · exact h2 u hu h⟩
      · have := mid_lt hv
        exact ⟨(a + v) / 2, this.1, fun u hu h => by
          rcases List.mem_cons.1 hu with rfl | hu
          · exact this.2
          · have := h2 u hu h; grind⟩
    · exact ⟨x, h1, fun u hu h => by
        rcases List.mem_cons.1 hu with rfl | hu
        · exact absurd h hv
        · exact h2 u hu h⟩
theorem low (l : List Rat) : ∃ a, ∀ u ∈ l, a < u := by
  induction l with
  | nil => exact ⟨0, fun u hu => by cases hu⟩
  | cons v l ih =>
    obtain ⟨a, h⟩ := ih
    by_cases hv : a < v
    · exact ⟨a, fun u hu => by
        rcases List.mem_cons.1 hu with rfl | hu
        · exact hv
        · exact h u hu⟩
    · exact ⟨v - 1, fun u hu => by
        rcases List.mem_cons.1 hu with rfl | hu
        · grind
        · have := h u hu; grind⟩
theorem uniq_low (ts us : List Rat) : ∀ (b c : Bool) (lb : Rat), Asc ts → Asc us → (∀ t ∈ ts, lb < t) → (∀ u ∈ us, lb < u) → (∀ x, lb < x → x ∉ ts → x ∉ us → evT b ts x = evT c us x) → b = c ∧ ts = us := by
  induction ts generalizing us with
  | nil =>
    intro b c lb _ hu _ h2 h
    obtain ⟨x, hx1, hx2⟩ := gap lb us
    have hbc : b = c := by
      have h3 := h x hx1 (by simp) (fun hm => by have := hx2 x hm hx1; grind)
      rw [evT_low (b := c) (ts := us) fun t ht => hx2 t ht (h2 t ht)] at h3
      exact h3
    cases us with
    | nil => exact ⟨hbc, rfl⟩
    | cons u us =>
      exfalso
      obtain ⟨y, hy1, hy2⟩ := gap u us
      have hne : y ∉ u :: us := fun hm => by
        rcases List.mem_cons.1 hm with rfl | hm
        · grind
        · have := hy2 y hm (hu.1 y hm); grind
      have h3 := h y (by have := h2 u (List.mem_cons_self ..); grind) (by simp) hne
      unfold evT at h3
      rw [if_pos hy1, evT_low fun t ht => hy2 t ht (hu.1 t ht), hbc] at h3
      cases c <;> cases h3
  | cons t ts ih =>
    intro b c lb ht hu h1 h2 h
    obtain ⟨x, hx1, hx2⟩ := gap lb (t :: ts ++ us)
    have hx3 : ∀ v ∈ t :: ts, x < v := fun v hv => hx2 v (List.mem_append_left _ hv) (h1 v hv)
    have hx4 : ∀ v ∈ us, x < v := fun v hv => hx2 v (List.mem_append_right _ hv) (h2 v hv)
    have hbc : b = c := by
      have h3 := h x hx1 (fun hm => by have := hx3 x hm; grind) (fun hm => by have := hx4 x hm; grind)
      rwa [evT_low hx3, evT_low hx4] at h3
    subst hbc
    cases us with
    | nil =>
      exfalso
      obtain ⟨y, hy1, hy2⟩ := gap t ts
      have hne : y ∉ t :: ts := fun hm => by
        rcases List.mem_cons.1 hm with rfl | hm
        · grind
        · have := hy2 y hm (ht.1 y hm); grind
      have h3 := h y (by have := h1 t (List.mem_cons_self ..); grind) hne (by simp)
      unfold evT at h3
      rw [if_pos hy1, evT_low fun v hv => hy2 v hv (ht.1 v hv)] at h3
      cases b <;> cases h3
    | cons u us =>
      have lt_t := h1 t (List.mem_cons_self ..)
      have lt_u := h2 u (List.mem_cons_self ..)
      rcases (show t < u ∨ t = u ∨ u < t by grind) with e | e | e
      · exfalso
        obtain ⟨y, hy1, hy2⟩ := gap t (ts ++ u :: us)
        have k1 : ∀ v ∈ ts, y < v := fun v hv => hy2 v (List.mem_append_left _ hv) (ht.1 v hv)
        have k2 : ∀ v ∈ u :: us, y < v := fun v hv => hy2 v (List.mem_append_right _ hv) (by
          rcases List.mem_cons.1 hv with rfl | hv
          · exact e
          · have := hu.1 v hv; grind)
        have h3 := h y (by grind) (fun hm => by
          rcases List.mem_cons.1 hm with rfl | hm
          · grind
          · have := k1 y hm; grind) (fun hm => by have := k2 y hm; grind)
        rw [evT_low (b := b) (ts := u :: us) k2] at h3
        unfold evT at h3
        rw [if_pos hy1, evT_low k1] at h3
        cases b <;> cases h3
      · subst e
        have := ih us (!b) (!b) t ht.2 hu.2 ht.1 hu.1 fun x hx m1 m2 => by
          have h3 := h x (by grind) (fun hm => by
            rcases List.mem_cons.1 hm with rfl | hm
            · grind
            · exact m1 hm) (fun hm => by
            rcases List.mem_cons.1 hm with rfl | hm
            · grind
            · exact m2 hm)
          unfold evT at h3
          rwa [if_pos hx, if_pos hx] at h3
        exact ⟨rfl, by rw [this.2]⟩
      · exfalso
        obtain ⟨y, hy1, hy2⟩ := gap u (us ++ t :: ts)
        have k1 : ∀ v ∈ us, y < v := fun v hv => hy2 v (List.mem_append_left _ hv) (hu.1 v hv)
        have k2 : ∀ v ∈ t :: ts, y < v := fun v hv => hy2 v (List.mem_append_right _ hv) (by
          rcases List.mem_cons.1 hv with rfl | hv
          · exact e
          · have := ht.1 v hv; grind)
        have h3 := h y (by grind) (fun hm => by have := k2 y hm; grind) (fun hm => by
          rcases List.mem_cons.1 hm with rfl | hm
          · grind
          · have := k1 y hm; grind)
        rw [evT_low (b := b) (ts := t :: ts) k2] at h3
        unfold evT at h3
        rw [if_pos hy1, evT_low k1] at h3
        cases b <;> cases h3
/-- Two sets that agree off finitely many numbers are one. -/
theorem uniq {ts us : List Rat} {b c : Bool} (l : List Rat) (ht : Asc ts) (hu : Asc us) (h : ∀ x, x ∉ l → x ∉ ts → x ∉ us → evT b ts x = evT c us x) : b = c ∧ ts = us := by
  obtain ⟨lb, hlb⟩ := low (ts ++ us)
  refine uniq_low ts us b c lb ht hu (fun t m => hlb t (List.mem_append_left _ m)) (fun t m => hlb t (List.mem_append_right _ m)) fun x _ m1 m2 => ?_
  obtain ⟨y, hy1, hy2⟩ := gap x (l ++ (ts ++ us))
  have near : ∀ (b : Bool) (vs : List Rat), (∀ v ∈ vs, v ∈ l ++ (ts ++ us)) → x ∉ vs → evT b vs y = evT b vs x := by
    intro b vs
    induction vs generalizing b with
    | nil => intro _ _; rfl
    | cons v vs ih =>
      intro hm hx
      have hv := hy2 v (hm v (List.mem_cons_self ..))
      have hvx : v ≠ x := fun e => hx (by rw [e]; exact List.mem_cons_self ..)
      unfold evT
      by_cases e : v < x
      · rw [if_pos e, if_pos (by grind)]
        exact ih _ (fun w hw => hm w (List.mem_cons_of_mem _ hw)) (fun hh => hx (List.mem_cons_of_mem _ hh))
      · have : x < v := by grind
        have := hv this
        rw [if_neg e, if_neg (by grind)]
  rw [← near b ts (fun v hv => List.mem_append_right _ (List.mem_append_left _ hv)) m1, ← near c us (fun v hv => List.mem_append_right _ (List.mem_append_right _ hv)) m2]
  have off : ∀ v, v ∈ l ++ (ts ++ us) → y ≠ v := fun v hv e => by
    subst e
    have := hy2 y hv hy1; grind
  exact h y (fun hm => off y (List.mem_append_left _ hm) rfl) (fun hm => off y (List.mem_append_right _ (List.mem_append_left _ hm)) rfl) (fun hm => off y (List.mem_append_right _ (List.mem_append_right _ hm)) rfl)
/-- The changes before x. -/
def sumLt : List (Rat × Int) → Rat → Int
  | [], _ => 0
  | e :: l, x => (if e.1 < x then e.2 else 0) + sumLt l x
/-- The changes at a, at the head of a list. -/
def takeSum (a : Rat) : List (Rat × Int) → Int
  | [] => 0
  | e :: l => if e.1 = a then e.2 + takeSum a l else 0
/-- What is behind them. -/
def dropAt (a : Rat) : List (Rat × Int) → List (Rat × Int)
  | [] => []
  | e :: l => if e.1 = a then dropAt a l else e :: l
/-- The least number of two ascending lists. -/
def leastT : List (Rat × Int) → List (Rat × Int) → Option Rat
  | [], [] => none
  | e :: _, [] => some e.1
  | [], f :: _ => some f.1
  | e :: _, f :: _ => some (if f.1 < e.1 then f.1 else e.1)
/-- The numbers at which the count passes the level lv. -/
def reachT (lv : Int) : Nat → Int → List (Rat × Int) → List (Rat × Int) → List Rat
  | 0, _, _, _ => []
  | n + 1, o, c, d => match leastT c d with
    | none => []
    | some a => if decide (lv ≤ o) = decide (lv ≤ o + takeSum a c + takeSum a d) then reachT lv n (o + takeSum a c + takeSum a d) (dropAt a c) (dropAt a d) else a :: reachT lv n (o + takeSum a c + takeSum a d) (dropAt a c) (dropAt a d)
/-- Ascending. -/
def AscW : List (Rat × Int) → Prop
  | [] => True
  | e :: l => (∀ f ∈ l, e.1 ≤ f.1) ∧ AscW l
theorem dropAt_sub {a : Rat} {l : List (Rat × Int)} : ∀ {f}, f ∈ dropAt a l → f ∈ l := by
  induction l with
  | nil => intro f h; cases h
  | cons e l ih =>
    intro f h
    unfold dropAt at h
    split at h
    · exact List.mem_cons_of_mem _ (ih h)
    · exact h
theorem dropAt_asc {a : Rat} {l : List (Rat × Int)} (h : AscW l) : AscW (dropAt a l) := by
  induction l with
  | nil => trivial
  | cons e l ih =>
    unfold dropAt
    split
    · exact ih h.2
    · exact h
theorem dropAt_gt {a : Rat} {l : List (Rat × Int)} (h : AscW l) (ha : ∀ e ∈ l, a ≤ e.1) : ∀ f ∈ dropAt a l, a < f.1 := by
  induction l with
  | nil => intro f h; cases h
  | cons e l ih =>
    unfold dropAt
    split
    · exact ih h.2 fun e he => ha e (List.mem_cons_of_mem _ he)
    · intro f hf
      have h1 := ha e (List.mem_cons_self ..)
      rcases List.mem_cons.1 hf with rfl | hf
      · grind
      · have := h.1 f hf; grind
theorem dropAt_len (a : Rat) (l : List (Rat × Int)) : (dropAt a l).length ≤ l.length := by
  induction l with
  | nil => exact Nat.le_refl _
  | cons e l ih =>
    unfold dropAt
    split
    · simp; omega
    · exact Nat.le_refl _
theorem sum_drop {a x : Rat} {l : List (Rat × Int)} (hx : a < x) : sumLt l x = takeSum a l + sumLt (dropAt a l) x := by
  induction l with
  | nil => simp [sumLt, takeSum, dropAt]
  | cons e l ih =>
    unfold takeSum dropAt
    by_cases h : e.1 = a
    · rw [if_pos h, if_pos h]
      show (if e.1 < x then e.2 else 0) + sumLt l x = _
      rw [if_pos (by rw [h]; exact hx), ih]; omega
    · rw [if_neg h, if_neg h]; omega
theorem sum_low {x : Rat} {l : List (Rat × Int)} (h : ∀ e ∈ l, ¬ e.1 < x) : sumLt l x = 0 := by
  induction l with
  | nil => rfl
  | cons e l ih =>
    unfold sumLt
    rw [if_neg (h e (List.mem_cons_self ..)), ih fun e he => h e (List.mem_cons_of_mem _ he)]; rfl
theorem least_le {c d : List (Rat × Int)} {a : Rat} (hc : AscW c) (hd : AscW d) (h : leastT c d = some a) : (∀ e ∈ c, a ≤ e.1) ∧ ∀ f ∈ d, a ≤ f.1 := by
  have self : ∀ {e : Rat × Int} {l}, AscW (e :: l) → ∀ g ∈ e :: l, e.1 ≤ g.1 := fun {e l} h g hg => by
    rcases List.mem_cons.1 hg with rfl | hg
    · grind
    · exact h.1 g hg
  cases c with
  | nil =>
    cases d with
    | nil => cases h
    | cons f d => injection h with h; subst h; exact ⟨fun e he => (by cases he), self hd⟩
  | cons e c =>
    cases d with
    | nil => injection h with h; subst h; exact ⟨self hc, fun e he => (by cases he)⟩
    | cons f d =>
      injection h with h; subst h
      split
      · exact ⟨fun g hg => by have := self hc g hg; grind, self hd⟩
      · exact ⟨self hc, fun g hg => by have := self hd g hg; grind⟩
theorem least_mem {c d : List (Rat × Int)} {a : Rat} (h : leastT c d = some a) : (∃ e ∈ c, e.1 = a) ∨ ∃ e ∈ d, e.1 = a := by
  cases c with
  | nil =>
    cases d with
    | nil => cases h
    | cons f d => injection h with h; exact .inr ⟨f, List.mem_cons_self .., h⟩
  | cons e c =>
    cases d with
    | nil => injection h with h; exact .inl ⟨e, List.mem_cons_self .., h⟩
    | cons f d =>
      injection h with h; subst h
      split
      · exact .inr ⟨f, List.mem_cons_self .., rfl⟩
      · exact .inl ⟨e, List.mem_cons_self .., rfl⟩
theorem least_len {c d : List (Rat × Int)} {a : Rat} (h : leastT c d = some a) : (dropAt a c).length + (dropAt a d).length < c.length + d.length := by
  have hc := dropAt_len a c
  have hd := dropAt_len a d
  have head : ∀ {e : Rat × Int} {l}, e.1 = a → (dropAt a (e :: l)).length < (e :: l).length := fun {e l} he => by
    unfold dropAt; rw [if_pos he]; have := dropAt_len a l; simp; omega
  cases c with
  | nil =>
    cases d with
    | nil => cases h
    | cons f d => injection h with h; have := head (l := d) h; omega
  | cons e c =>
    cases d with
    | nil => injection h with h; have := head (l := c) h; omega
    | cons f d =>
      injection h with h
      split at h
      · have := head (l := d) h; omega
      · have := head (l := c) h; omega
theorem least_none {c d : List (Rat × Int)} (h : leastT c d = none) : c = [] ∧ d = [] := by
  cases c <;> cases d <;> first | exact ⟨rfl, rfl⟩ | cases h
theorem reach_sem (lv : Int) (n : Nat) : ∀ (o : Int) (c d : List (Rat × Int)), c.length + d.length ≤ n → AscW c → AscW d →
    Asc (reachT lv n o c d) ∧ (∀ t ∈ reachT lv n o c d, (∃ e ∈ c, e.1 = t) ∨ ∃ e ∈ d, e.1 = t) ∧ (reachT lv n o c d).length ≤ c.length + d.length ∧
    ∀ x, (∀ e ∈ c, e.1 ≠ x) → (∀ e ∈ d, e.1 ≠ x) → evT (decide (lv ≤ o)) (reachT lv n o c d) x = decide (lv ≤ o + sumLt c x + sumLt d x) := by
  induction n with
  | zero =>
    intro o c d hn _ _
    obtain rfl := List.eq_nil_of_length_eq_zero (show c.length = 0 by omega)
    obtain rfl := List.eq_nil_of_length_eq_zero (show d.length = 0 by omega)
    exact ⟨trivial, fun t h => (by cases h), Nat.zero_le _, fun x _ _ => by simp [reachT, evT, sumLt]⟩
  | succ n ih =>
    intro o c d hn hc hd
    cases hl : leastT c d with
    | none =>
      obtain ⟨rfl, rfl⟩ := least_none hl
      exact ⟨trivial, fun t h => (by cases h), Nat.zero_le _, fun x _ _ => by simp [reachT, leastT, evT, sumLt]⟩
    | some a =>
      have hlen := least_len hl
      have hle := least_le hc hd hl
      have hmem := least_mem hl
      obtain ⟨i1, i2, i4, i3⟩ := ih (o + takeSum a c + takeSum a d) (dropAt a c) (dropAt a d) (by omega) (dropAt_asc hc) (dropAt_asc hd)
      have hgt : ∀ t ∈ reachT lv n (o + takeSum a c + takeSum a d) (dropAt a c) (dropAt a d), a < t := fun t ht => by
        rcases i2 t ht with ⟨e, he, rfl⟩ | ⟨e, he, rfl⟩
        · exact dropAt_gt hc hle.1 e he
        · exact dropAt_gt hd hle.2 e he
      have hsub : ∀ t ∈ reachT lv n (o + takeSum a c + takeSum a d) (dropAt a c) (dropAt a d), (∃ e ∈ c, e.1 = t) ∨ ∃ e ∈ d, e.1 = t := fun t ht => by
        rcases i2 t ht with ⟨e, he, h⟩ | ⟨e, he, h⟩
        · exact .inl ⟨e, dropAt_sub he, h⟩
        · exact .inr ⟨e, dropAt_sub he, h⟩
      have hev : ∀ x, a < x → (∀ e ∈ c, e.1 ≠ x) → (∀ e ∈ d, e.1 ≠ x) → evT (decide (lv ≤ o + takeSum a c + takeSum a d)) (reachT lv n (o + takeSum a c + takeSum a d) (dropAt a c) (dropAt a d)) x = decide (lv ≤ o + sumLt c x + sumLt d x) := fun x hx h1 h2 => by
        rw [i3 x (fun e he => h1 e (dropAt_sub he)) (fun e he => h2 e (dropAt_sub he)), sum_drop (l := c) hx, sum_drop (l := d) hx]
        congr 1
        apply propext
        constructor <;> intro h <;> omega
      have hlow : ∀ x, x < a → sumLt c x = 0 ∧ sumLt d x = 0 := fun x hx => ⟨sum_low fun e he => by have := hle.1 e he; grind, sum_low fun e he => by have := hle.2 e he; grind⟩
      have hne : ∀ x, (∀ e ∈ c, e.1 ≠ x) → (∀ e ∈ d, e.1 ≠ x) → x ≠ a := fun x h1 h2 e => by
        subst e
        rcases hmem with ⟨e, he, h⟩ | ⟨e, he, h⟩
        · exact h1 e he h
        · exact h2 e he h
      by_cases hf : decide (lv ≤ o) = decide (lv ≤ o + takeSum a c + takeSum a d)
      · have e : reachT lv (n + 1) o c d = reachT lv n (o + takeSum a c + takeSum a d) (dropAt a c) (dropAt a d) := by
          show (match leastT c d with | none => [] | some a => _) = _
          rw [hl]; exact if_pos hf
        rw [e]
        refine ⟨i1, hsub, by omega, fun x h1 h2 => ?_⟩
        rcases (show x < a ∨ a < x by have := hne x h1 h2; grind) with hx | hx
        · rw [evT_low fun t ht => by have := hgt t ht; grind, (hlow x hx).1, (hlow x hx).2]; simp
        · rw [hf]; exact hev x hx h1 h2
      · have e : reachT lv (n + 1) o c d = a :: reachT lv n (o + takeSum a c + takeSum a d) (dropAt a c) (dropAt a d) := by
          show (match leastT c d with | none => [] | some a => _) = _
          rw [hl]; exact if_neg hf
        rw [e]
        refine ⟨⟨hgt, i1⟩, fun t ht => ?_, by simp; omega, fun x h1 h2 => ?_⟩
        · rcases List.mem_cons.1 ht with rfl | ht
          · exact hmem
          · exact hsub t ht
        · rcases (show x < a ∨ a < x by have := hne x h1 h2; grind) with hx | hx
          · unfold evT
            rw [if_neg (by grind), (hlow x hx).1, (hlow x hx).2]; simp
          · unfold evT
            rw [if_pos hx, ← hev x hx h1 h2]
            congr 1
            revert hf
            cases decide (lv ≤ o) <;> cases decide (lv ≤ o + takeSum a c + takeSum a d) <;> simp
/-- How many spans are open below all ends. -/
def tOpen : List Sp → Int
  | [] => 0
  | s :: l => (if s.lo = none then 1 else 0) + tOpen l
/-- The ends of spans, in their order, with the change of the number of open spans. -/
def sEnds (s : Sp) : List (Rat × Int) := (match s.lo with | some a => [(a, 1)] | none => []) ++ (match s.hi with | some b => [(b, -1)] | none => [])
def tEnds (l : List Sp) : List (Rat × Int) := l.flatMap sEnds
/-- Numbers with changes in turn. -/
def alt : Int → List Rat → List (Rat × Int)
  | _, [] => []
  | k, t :: ts => (t, k) :: alt (-k) ts
def ob (b : Bool) : Int := if b then 1 else 0
def kb (b : Bool) : Int := if b then -1 else 1
theorem tEnds_mkS (ts : List Rat) : tEnds (mkS none ts) = alt 1 ts ∧ tEnds (mkS (some none) ts) = alt (-1) ts ∧ ∀ a, tEnds (mkS (some (some a)) ts) = (a, 1) :: alt (-1) ts := by
  induction ts with
  | nil => exact ⟨rfl, rfl, fun a => rfl⟩
  | cons t ts ih =>
    refine ⟨?_, ?_, fun a => ?_⟩
    · show tEnds (mkS (some (some t)) ts) = _
      rw [ih.2.2]; rfl
    · show tEnds (⟨none, some t⟩ :: mkS none ts) = _
      show sEnds ⟨none, some t⟩ ++ tEnds (mkS none ts) = _
      rw [ih.1]; rfl
    · show sEnds ⟨some a, some t⟩ ++ tEnds (mkS none ts) = _
      rw [ih.1]; rfl
theorem tOpen_mkS (ts : List Rat) : tOpen (mkS none ts) = 0 ∧ tOpen (mkS (some none) ts) = 1 ∧ ∀ a, tOpen (mkS (some (some a)) ts) = 0 := by
  induction ts with
  | nil => exact ⟨rfl, rfl, fun a => rfl⟩
  | cons t ts ih =>
    refine ⟨?_, ?_, fun a => ?_⟩
    · exact ih.2.2 t
    · show 1 + tOpen (mkS none ts) = _
      rw [ih.1]; rfl
    · show 0 + tOpen (mkS none ts) = _
      rw [ih.1]; rfl
theorem tEnds_set (b : Bool) (ts : List Rat) : tEnds (spansOf b ts) = alt (kb b) ts := by
  cases b
  · exact (tEnds_mkS ts).1
  · exact (tEnds_mkS ts).2.1
theorem tOpen_set (b : Bool) (ts : List Rat) : tOpen (spansOf b ts) = ob b := by
  cases b
  · exact (tOpen_mkS ts).1
  · exact (tOpen_mkS ts).2.1
theorem alt_mem {k : Int} {ts : List Rat} : ∀ {e}, e ∈ alt k ts → e.1 ∈ ts := by
  induction ts generalizing k with
  | nil => intro e h; cases h
  | cons t ts ih =>
    intro e h
    rcases List.mem_cons.1 h with rfl | h
    · exact List.mem_cons_self ..
    · exact List.mem_cons_of_mem _ (ih h)
theorem alt_asc {k : Int} {ts : List Rat} (h : Asc ts) : AscW (alt k ts) := by
  induction ts generalizing k with
  | nil => trivial
  | cons t ts ih => exact ⟨fun f hf => by have := h.1 _ (alt_mem hf); show t ≤ f.1; grind, ih h.2⟩
theorem alt_len (k : Int) (ts : List Rat) : (alt k ts).length = ts.length := by
  induction ts generalizing k with
  | nil => rfl
  | cons t ts ih => simp [alt, ih]
theorem alt_sum {ts : List Rat} (h : Asc ts) (b : Bool) (x : Rat) : ob b + sumLt (alt (kb b) ts) x = ob (evT b ts x) := by
  induction ts generalizing b with
  | nil => simp [alt, sumLt, evT]
  | cons t ts ih =>
    show ob b + ((if t < x then kb b else 0) + sumLt (alt (-kb b) ts) x) = ob (if t < x then evT (!b) ts x else b)
    have hk : -kb b = kb (!b) := by cases b <;> rfl
    rw [hk]
    by_cases ht : t < x
    · rw [if_pos ht, if_pos ht, ← ih h.2 (!b)]
      have : ob b + kb b = ob (!b) := by cases b <;> rfl
      omega
    · rw [if_neg ht, if_neg ht, sum_low fun e he => by have := h.1 _ (alt_mem he); grind]; omega
/-- What Union, Intersect, Subtract and Complement make of two sets: op says of which. -/
theorem reach_op {ts us : List Rat} (ht : Asc ts) (hu : Asc us) (b c : Bool) (lv : Int) (f : Bool → Bool → Bool) (hf : ∀ x y, decide (lv ≤ ob x + ob y) = f x y) (n : Nat) (hn : ts.length + us.length ≤ n) :
    decide (lv ≤ ob b + ob c) = f b c ∧ Asc (reachT lv n (ob b + ob c) (alt (kb b) ts) (alt (kb c) us)) ∧ (∀ t ∈ reachT lv n (ob b + ob c) (alt (kb b) ts) (alt (kb c) us), t ∈ ts ∨ t ∈ us) ∧ (reachT lv n (ob b + ob c) (alt (kb b) ts) (alt (kb c) us)).length ≤ ts.length + us.length ∧
    ∀ x, x ∉ ts → x ∉ us → evT (f b c) (reachT lv n (ob b + ob c) (alt (kb b) ts) (alt (kb c) us)) x = f (evT b ts x) (evT c us x) := by
  obtain ⟨h1, h2, h4, h3⟩ := reach_sem lv n (ob b + ob c) (alt (kb b) ts) (alt (kb c) us) (by rw [alt_len, alt_len]; exact hn) (alt_asc ht) (alt_asc hu)
  rw [alt_len, alt_len] at h4
  refine ⟨hf b c, h1, fun t hm => ?_, h4, fun x m1 m2 => ?_⟩
  · rcases h2 t hm with ⟨e, he, rfl⟩ | ⟨e, he, rfl⟩
    · exact .inl (alt_mem he)
    · exact .inr (alt_mem he)
  · rw [← hf, h3 x (fun e he h => m1 (by rw [← h]; exact alt_mem he)) (fun e he h => m2 (by rw [← h]; exact alt_mem he)), ← hf, ← alt_sum ht, ← alt_sum hu]
    congr 1
    apply propext
    constructor <;> intro h <;> omega
end Go.Proofs.YtpgkkkodniiilaaGreatDoor
