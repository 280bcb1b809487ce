/-
  Plain numbers: lists of digits in base 2^32, least significant first; their values; the canonical digits of a number.
-/
namespace Go.Proofs.YtkhfadfjkmhpgaaDoor

/-- The value of a list of digits. -/
def val : List Nat → Nat
  | [] => 0
  | d :: ds => d + 4294967296 * val ds

/-- Every digit is below the base. -/
def OkD (ds : List Nat) : Prop := ∀ d ∈ ds, d < 4294967296

/-- The last digit is not 0. -/
def Nrm (ds : List Nat) : Prop := ds.getLast? ≠ some 0

/-- The canonical digits. -/
def digs (x : Nat) : List Nat := if x = 0 then [] else (x % 4294967296) :: digs (x / 4294967296)
termination_by x
decreasing_by omega

/-- Powers of the base. -/
def Bs (i : Nat) : Nat := 4294967296 ^ i
theorem Bs_zero : Bs 0 = 1 := rfl
theorem Bs_succ (i : Nat) : Bs (i + 1) = 4294967296 * Bs i := by unfold Bs; rw [Nat.pow_succ]; omega
theorem Bs_pos (i : Nat) : 0 < Bs i := Nat.pow_pos (by omega)
theorem Bs_add (i j : Nat) : Bs (i + j) = Bs i * Bs j := Nat.pow_add ..
theorem Bs_mono {i j : Nat} (h : i ≤ j) : Bs i ≤ Bs j := Nat.pow_le_pow_right (by omega) h
theorem Bs_one : Bs 1 = 4294967296 := by rw [Bs_succ, Bs_zero]
theorem Bs_two : Bs 2 = 18446744073709551616 := by rw [Bs_succ, Bs_one]

theorem okD_nil : OkD [] := fun _ h => by cases h
theorem okD_cons {d : Nat} {ds : List Nat} : OkD (d :: ds) ↔ d < 4294967296 ∧ OkD ds := by unfold OkD; simp
theorem okD_append {a b : List Nat} : OkD (a ++ b) ↔ OkD a ∧ OkD b := by
  unfold OkD; simp only [List.mem_append]
  exact ⟨fun h => ⟨fun d hd => h d (.inl hd), fun d hd => h d (.inr hd)⟩, fun h d hd => hd.elim (h.1 d) (h.2 d)⟩
theorem okD_take {ds : List Nat} (h : OkD ds) (k : Nat) : OkD (ds.take k) := fun d hd => h d (List.mem_of_mem_take hd)
theorem okD_drop {ds : List Nat} (h : OkD ds) (k : Nat) : OkD (ds.drop k) := fun d hd => h d (List.mem_of_mem_drop hd)
theorem okD_get {ds : List Nat} (h : OkD ds) {i : Nat} (hi : i < ds.length) : ds[i] < 4294967296 := h _ (List.getElem_mem hi)
theorem okD_getD {ds : List Nat} (h : OkD ds) (i : Nat) : ds.getD i 0 < 4294967296 := by
  rcases Nat.lt_or_ge i ds.length with hi | hi
  · rw [List.getD_eq_getElem?_getD, List.getElem?_eq_getElem hi]; exact okD_get h hi
  · rw [List.getD_eq_getElem?_getD, List.getElem?_eq_none hi]; simp
theorem okD_set {ds : List Nat} (h : OkD ds) (i : Nat) {d : Nat} (hd : d < 4294967296) : OkD (ds.set i d) := fun x hx => by
  rcases List.mem_or_eq_of_mem_set hx with hx | rfl
  · exact h x hx
  · exact hd
theorem okD_replicate (n : Nat) {d : Nat} (hd : d < 4294967296) : OkD (List.replicate n d) := fun x hx => by
  rw [List.mem_replicate] at hx; omega

theorem val_nil : val [] = 0 := rfl
theorem val_cons (d : Nat) (ds : List Nat) : val (d :: ds) = d + 4294967296 * val ds := rfl
theorem val_append (a b : List Nat) : val (a ++ b) = val a + Bs a.length * val b := by
  induction a with
  | nil => simp [val, Bs_zero]
  | cons d a ih =>
    rw [List.cons_append, val_cons, val_cons, ih, List.length_cons, Bs_succ, Nat.mul_add, ← Nat.mul_assoc]; omega
theorem val_lt {ds : List Nat} (h : OkD ds) : val ds < Bs ds.length := by
  induction ds with
  | nil => simp [val, Bs_zero]
  | cons d ds ih =>
    obtain ⟨h1, h2⟩ := okD_cons.1 h
    have := ih h2
    rw [val_cons, List.length_cons, Bs_succ]; omega
theorem val_snoc (a : List Nat) (d : Nat) : val (a ++ [d]) = val a + Bs a.length * d := by rw [val_append]; simp [val]
theorem val_replicate (n : Nat) : val (List.replicate n 0) = 0 := by
  induction n with
  | zero => rfl
  | succ n ih => rw [List.replicate_succ, val_cons, ih]
theorem val_take_succ (ds : List Nat) (k : Nat) (h : k < ds.length) : val (ds.take (k + 1)) = val (ds.take k) + Bs k * ds.getD k 0 := by
  rw [List.take_succ_eq_append_getElem h, val_snoc, List.length_take, Nat.min_eq_left (by omega), List.getD_eq_getElem?_getD, List.getElem?_eq_getElem h]; rfl
theorem val_take_drop (ds : List Nat) (k : Nat) (h : k ≤ ds.length) : val ds = val (ds.take k) + Bs k * val (ds.drop k) := by
  have := val_append (ds.take k) (ds.drop k)
  rw [List.take_append_drop, List.length_take, Nat.min_eq_left h] at this; exact this
theorem val_take_lt {ds : List Nat} (h : OkD ds) (k : Nat) : val (ds.take k) < Bs k :=
  Nat.lt_of_lt_of_le (val_lt (okD_take h k)) (Bs_mono (by rw [List.length_take]; omega))
theorem val_take (ds : List Nat) (h : OkD ds) (k : Nat) (hk : k ≤ ds.length) : val (ds.take k) = val ds % Bs k := by
  rw [val_take_drop ds k hk, Nat.add_mul_mod_self_left, Nat.mod_eq_of_lt (val_take_lt h k)]
theorem val_drop (ds : List Nat) (h : OkD ds) (k : Nat) (hk : k ≤ ds.length) : val (ds.drop k) = val ds / Bs k := by
  rw [val_take_drop ds k hk, Nat.add_mul_div_left _ _ (Bs_pos k), Nat.div_eq_of_lt (val_take_lt h k)]; omega
theorem val_head (ds : List Nat) (h : OkD ds) : ds.getD 0 0 = val ds % 4294967296 := by
  cases ds with
  | nil => rfl
  | cons d ds => obtain ⟨h1, _⟩ := okD_cons.1 h; rw [val_cons]; simp; omega
/-- A digit of a list is a digit of its value. -/
theorem val_digit (ds : List Nat) (h : OkD ds) (k : Nat) : ds.getD k 0 = val ds / Bs k % 4294967296 := by
  rcases Nat.lt_or_ge k ds.length with hk | hk
  · rw [← val_drop ds h k (by omega), ← val_head _ (okD_drop h k), List.getD_eq_getElem?_getD, List.getD_eq_getElem?_getD, List.getElem?_drop]; rfl
  · rw [List.getD_eq_getElem?_getD, List.getElem?_eq_none hk, Nat.div_eq_of_lt (Nat.lt_of_lt_of_le (val_lt h) (Bs_mono hk))]; rfl

theorem digs_zero : digs 0 = [] := by rw [digs]; simp
theorem digs_pos {x : Nat} (h : 0 < x) : digs x = (x % 4294967296) :: digs (x / 4294967296) := by
  rw [digs, if_neg (by omega)]
theorem val_digs (x : Nat) : val (digs x) = x := by
  induction x using Nat.strongRecOn with
  | ind x ih =>
    rcases Nat.eq_zero_or_pos x with h | h
    · subst h; rw [digs_zero]; rfl
    · rw [digs_pos h, val_cons, ih _ (by omega)]; omega
theorem okD_digs (x : Nat) : OkD (digs x) := by
  induction x using Nat.strongRecOn with
  | ind x ih =>
    rcases Nat.eq_zero_or_pos x with h | h
    · subst h; rw [digs_zero]; exact okD_nil
    · rw [digs_pos h, okD_cons]; exact ⟨by omega, ih _ (by omega)⟩
theorem digs_eq_nil {x : Nat} : digs x = [] ↔ x = 0 := by
  constructor
  · intro h; have := val_digs x; rw [h] at this; exact this.symm
  · rintro rfl; exact digs_zero
theorem nrm_nil : Nrm [] := by simp [Nrm]
theorem nrm_digs (x : Nat) : Nrm (digs x) := by
  induction x using Nat.strongRecOn with
  | ind x ih =>
    rcases Nat.eq_zero_or_pos x with h | h
    · subst h; rw [digs_zero]; exact nrm_nil
    · rw [digs_pos h]
      rcases Nat.eq_zero_or_pos (x / 4294967296) with h2 | h2
      · rw [h2, digs_zero]; unfold Nrm; simp; omega
      · have := ih _ (show x / 4294967296 < x by omega)
        rw [digs_pos h2] at this ⊢
        unfold Nrm at this ⊢
        rwa [List.getLast?_cons_cons]
theorem val_pos_of_nrm {ds : List Nat} (h : Nrm ds) (hne : ds ≠ []) : 0 < val ds := by
  induction ds with
  | nil => exact absurd rfl hne
  | cons d ds ih =>
    rw [val_cons]
    cases ds with
    | nil => unfold Nrm at h; simp at h; omega
    | cons e es =>
      have : Nrm (e :: es) := by unfold Nrm at h ⊢; rwa [List.getLast?_cons_cons] at h
      have := ih this (by simp)
      omega
/-- A list without a 0 at its end is the canonical one of its value. -/
theorem digs_val {ds : List Nat} (h : OkD ds) (hn : Nrm ds) : digs (val ds) = ds := by
  induction ds with
  | nil => exact digs_zero
  | cons d ds ih =>
    obtain ⟨h1, h2⟩ := okD_cons.1 h
    have hp := val_pos_of_nrm hn (by simp)
    rw [digs_pos hp, val_cons]
    have e1 : (d + 4294967296 * val ds) % 4294967296 = d := by omega
    have e2 : (d + 4294967296 * val ds) / 4294967296 = val ds := by omega
    rw [e1, e2]
    cases ds with
    | nil => simp [val, digs_zero]
    | cons e es => rw [ih h2 (by unfold Nrm at hn ⊢; rwa [List.getLast?_cons_cons] at hn)]
theorem digs_length_le {x k : Nat} (h : x < Bs k) : (digs x).length ≤ k := by
  induction k generalizing x with
  | zero => rw [Bs_zero] at h; obtain rfl : x = 0 := by omega
            rw [digs_zero]; simp
  | succ k ih =>
    rcases Nat.eq_zero_or_pos x with hx | hx
    · subst hx; rw [digs_zero]; simp
    · rw [digs_pos hx, List.length_cons]
      rw [Bs_succ] at h
      have := ih (x := x / 4294967296) (by omega)
      omega
theorem lt_of_digs_length {x k : Nat} (h : (digs x).length ≤ k) : x < Bs k := by
  have := val_lt (okD_digs x); rw [val_digs] at this
  exact Nat.lt_of_lt_of_le this (Bs_mono h)
theorem digs_length_le_iff {x k : Nat} : (digs x).length ≤ k ↔ x < Bs k := ⟨lt_of_digs_length, digs_length_le⟩
theorem digs_length_mono {x y : Nat} (h : x ≤ y) : (digs x).length ≤ (digs y).length := digs_length_le (Nat.lt_of_le_of_lt h (lt_of_digs_length (Nat.le_refl _)))
theorem digs_length_pos {x : Nat} (h : 0 < x) : 0 < (digs x).length := by rw [digs_pos h]; simp
theorem le_of_digs_length {x : Nat} (h : 0 < x) : Bs ((digs x).length - 1) ≤ x := by
  rcases Nat.lt_or_ge x (Bs ((digs x).length - 1)) with hl | hl
  · have := digs_length_le hl; have := digs_length_pos h; omega
  · exact hl
theorem digs_inj {x y : Nat} (h : digs x = digs y) : x = y := by rw [← val_digs x, h, val_digs]
theorem digs_digit (x k : Nat) : (digs x).getD k 0 = x / Bs k % 4294967296 := by rw [val_digit _ (okD_digs x), val_digs]
/-- The list without the zeros at its end. -/
theorem digs_of_take {ds : List Nat} (h : OkD ds) {k : Nat} (hk : k ≤ ds.length) (hv : val (ds.take k) = val ds) (hn : k = 0 ∨ ds.getD (k - 1) 0 ≠ 0) : digs (val ds) = ds.take k := by
  rw [← hv]
  refine digs_val (okD_take h k) ?_
  unfold Nrm
  rcases hn with rfl | hn
  · simp
  · rcases Nat.eq_zero_or_pos k with rfl | hk0
    · simp
    · rw [List.getLast?_eq_getElem?, List.length_take, Nat.min_eq_left hk, List.getElem?_take, if_pos (by omega)]
      rw [List.getD_eq_getElem?_getD] at hn
      intro e; rw [e] at hn; exact hn rfl
theorem digs_one_digit {x : Nat} (h0 : 0 < x) (h : x < 4294967296) : digs x = [x] := by
  rw [digs_pos h0, Nat.mod_eq_of_lt h, Nat.div_eq_of_lt h, digs_zero]
theorem getD_of_ge {ds : List Nat} {k : Nat} (h : ds.length ≤ k) : ds.getD k 0 = 0 := by
  rw [List.getD_eq_getElem?_getD, List.getElem?_eq_none h]; rfl
theorem val_take_succ' (ds : List Nat) (k : Nat) : val (ds.take (k + 1)) = val (ds.take k) + Bs k * ds.getD k 0 := by
  rcases Nat.lt_or_ge k ds.length with h | h
  · exact val_take_succ ds k h
  · rw [List.take_of_length_le (by omega), List.take_of_length_le h, getD_of_ge h]; simp
theorem val_take_set {ds : List Nat} {k : Nat} (h : k < ds.length) (d : Nat) : val ((ds.set k d).take (k + 1)) = val (ds.take k) + Bs k * d := by
  rw [val_take_succ _ _ (by simpa using h), List.take_set_of_le (by omega), List.getD_eq_getElem?_getD, List.getElem?_set_self h]; rfl
theorem val_take_all {ds : List Nat} {k : Nat} (h : ds.length ≤ k) : val (ds.take k) = val ds := by rw [List.take_of_length_le h]
end Go.Proofs.YtkhfadfjkmhpgaaDoor
