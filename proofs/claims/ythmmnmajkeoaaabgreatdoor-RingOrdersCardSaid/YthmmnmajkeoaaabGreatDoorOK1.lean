/-
  Math, Words, Grow, Trim, Base, AddMul, DivD in one text.
-/
import Derived.Test.YthmmnmajkeoaaabGreatDoorProg
import Derived.Tactics
import Derived.Tactics2
import Derived.WalkKit
import Derived.IntWalk
import Derived.Deep.Draws
import Derived.Deep.QuietTactic
import Derived.BigQuiet
import Derived.Lib.Hide
import Derived.KernelRfl
import Derived.Maps.AppendAt
import Derived.OwnWalk
namespace Go.Proofs.YthmmnmajkeoaaabGreatDoor

/-- The value of a list of digits. -/
def val : List Nat → Nat
  | [] => 0
  | d :: ds => d + 4294967296 * val ds

/-- Every digit is below the base. -/
def OkD (ds : List Nat) : Prop := ∀ d ∈ ds, d < 4294967296

/-- The last digit is not 0. -/
def Nrm (ds : List Nat) : Prop := ds.getLast? ≠ some 0

/-- The canonical digits. -/
def digs (x : Nat) : List Nat := if x = 0 then [] else (x % 4294967296) :: digs (x / 4294967296)
termination_by x
decreasing_by omega

/-- Powers of the base. -/
def Bs (i : Nat) : Nat := 4294967296 ^ i
theorem Bs_zero : Bs 0 = 1 := rfl
theorem Bs_succ (i : Nat) : Bs (i + 1) = 4294967296 * Bs i := by unfold Bs; rw [Nat.pow_succ]; omega
theorem Bs_pos (i : Nat) : 0 < Bs i := Nat.pow_pos (by omega)
theorem Bs_add (i j : Nat) : Bs (i + j) = Bs i * Bs j := Nat.pow_add ..
theorem Bs_mono {i j : Nat} (h : i ≤ j) : Bs i ≤ Bs j := Nat.pow_le_pow_right (by omega) h
theorem Bs_one : Bs 1 = 4294967296 := by rw [Bs_succ, Bs_zero]
theorem Bs_two : Bs 2 = 18446744073709551616 := by rw [Bs_succ, Bs_one]

theorem okD_nil : OkD [] := fun _ h => by cases h
theorem okD_cons {d : Nat} {ds : List Nat} : OkD (d :: ds) ↔ d < 4294967296 ∧ OkD ds := by unfold OkD; simp
theorem okD_append {a b : List Nat} : OkD (a ++ b) ↔ OkD a ∧ OkD b := by
  unfold OkD; simp only [List.mem_append]
  exact ⟨fun h => ⟨fun d hd => h d (.inl hd), fun d hd => h d (.inr hd)⟩, fun h d hd => hd.elim (h.1 d) (h.2 d)⟩
theorem okD_take {ds : List Nat} (h : OkD ds) (k : Nat) : OkD (ds.take k) := fun d hd => h d (List.mem_of_mem_take hd)
theorem okD_drop {ds : List Nat} (h : OkD ds) (k : Nat) : OkD (ds.drop k) := fun d hd => h d (List.mem_of_mem_drop hd)
theorem okD_get {ds : List Nat} (h : OkD ds) {i : Nat} (hi : i < ds.length) : ds[i] < 4294967296 := h _ (List.getElem_mem hi)
theorem okD_getD {ds : List Nat} (h : OkD ds) (i : Nat) : ds.getD i 0 < 4294967296 := by
  rcases Nat.lt_or_ge i ds.length with hi | hi
  · rw [List.getD_eq_getElem?_getD, List.getElem?_eq_getElem hi]; exact okD_get h hi
  · rw [List.getD_eq_getElem?_getD, List.getElem?_eq_none hi]; simp
theorem okD_set {ds : List Nat} (h : OkD ds) (i : Nat) {d : Nat} (hd : d < 4294967296) : OkD (ds.set i d) := fun x hx => by
  rcases List.mem_or_eq_of_mem_set hx with hx | rfl
  · exact h x hx
  · exact hd
theorem okD_replicate (n : Nat) {d : Nat} (hd : d < 4294967296) : OkD (List.replicate n d) := fun x hx => by
  rw [List.mem_replicate] at hx; omega

theorem val_nil : val [] = 0 := rfl
theorem val_cons (d : Nat) (ds : List Nat) : val (d :: ds) = d + 4294967296 * val ds := rfl
theorem val_append (a b : List Nat) : val (a ++ b) = val a + Bs a.length * val b := by
  induction a with
  | nil => simp [val, Bs_zero]
  | cons d a ih =>
    rw [List.cons_append, val_cons, val_cons, ih, List.length_cons, Bs_succ, Nat.mul_add, ← Nat.mul_assoc]; omega
theorem val_lt {ds : List Nat} (h : OkD ds) : val ds < Bs ds.length := by
  induction ds with
  | nil => simp [val, Bs_zero]
  | cons d ds ih =>
    obtain ⟨h1, h2⟩ := okD_cons.1 h
    have := ih h2
    rw [val_cons, List.length_cons, Bs_succ]; omega
theorem val_snoc (a : List Nat) (d : Nat) : val (a ++ [d]) = val a + Bs a.length * d := by rw [val_append]; simp [val]
theorem val_replicate (n : Nat) : val (List.replicate n 0) = 0 := by
  induction n with
  | zero => rfl
  | succ n ih => rw [List.replicate_succ, val_cons, ih]
theorem val_take_succ (ds : List Nat) (k : Nat) (h : k < ds.length) : val (ds.take (k + 1)) = val (ds.take k) + Bs k * ds.getD k 0 := by
  rw [List.take_succ_eq_append_getElem h, val_snoc, List.length_take, Nat.min_eq_left (by omega), List.getD_eq_getElem?_getD, List.getElem?_eq_getElem h]; rfl
theorem val_take_drop (ds : List Nat) (k : Nat) (h : k ≤ ds.length) : val ds = val (ds.take k) + Bs k * val (ds.drop k) := by
  have := val_append (ds.take k) (ds.drop k)
  rw [List.take_append_drop, List.length_take, Nat.min_eq_left h] at this; exact this
theorem val_take_lt {ds : List Nat} (h : OkD ds) (k : Nat) : val (ds.take k) < Bs k :=
  Nat.lt_of_lt_of_le (val_lt (okD_take h k)) (Bs_mono (by rw [List.length_take]; omega))
theorem val_drop (ds : List Nat) (h : OkD ds) (k : Nat) (hk : k ≤ ds.length) : val (ds.drop k) = val ds / Bs k := by
  rw [val_take_drop ds k hk, Nat.add_mul_div_left _ _ (Bs_pos k), Nat.div_eq_of_lt (val_take_lt h k)]; omega
theorem val_head (ds : List Nat) (h : OkD ds) : ds.getD 0 0 = val ds % 4294967296 := by
  cases ds with
  | nil => rfl
  | cons d ds => obtain ⟨h1, _⟩ := okD_cons.1 h; rw [val_cons]; simp; omega
/-- A digit of a list is a digit of its value. -/
theorem val_digit (ds : List Nat) (h : OkD ds) (k : Nat) : ds.getD k 0 = val ds / Bs k % 4294967296 := by
  rcases Nat.lt_or_ge k ds.length with hk | hk
  · rw [← val_drop ds h k (by omega), ← val_head _ (okD_drop h k), List.getD_eq_getElem?_getD, List.getD_eq_getElem?_getD, List.getElem?_drop]; rfl
  · rw [List.getD_eq_getElem?_getD, List.getElem?_eq_none hk, Nat.div_eq_of_lt (Nat.lt_of_lt_of_le (val_lt h) (Bs_mono hk))]; rfl

theorem digs_zero : digs 0 = [] := by rw [digs]; simp
theorem digs_pos {x : Nat} (h : 0 < x) : digs x = (x % 4294967296) :: digs (x / 4294967296) := by
  rw [digs, if_neg (by omega)]
theorem val_digs (x : Nat) : val (digs x) = x := by
  induction x using Nat.strongRecOn with
  | ind x ih =>
    rcases Nat.eq_zero_or_pos x with h | h
    · subst h; rw [digs_zero]; rfl
    · rw [digs_pos h, val_cons, ih _ (by omega)]; omega
theorem okD_digs (x : Nat) : OkD (digs x) := by
  induction x using Nat.strongRecOn with
  | ind x ih =>
    rcases Nat.eq_zero_or_pos x with h | h
    · subst h; rw [digs_zero]; exact okD_nil
    · rw [digs_pos h, okD_cons]; exact ⟨by omega, ih _ (by omega)⟩
theorem nrm_nil : Nrm [] := by simp [Nrm]
theorem nrm_digs (x : Nat) : Nrm (digs x) := by
  induction x using Nat.strongRecOn with
  | ind x ih =>
    rcases Nat.eq_zero_or_pos x with h | h
    · subst h; rw [digs_zero]; exact nrm_nil
    · rw [digs_pos h]
      rcases Nat.eq_zero_or_pos (x / 4294967296) with h2 | h2
      · rw [h2, digs_zero]; unfold Nrm; simp; omega
      · have := ih _ (show x / 4294967296 < x by omega)
        rw [digs_pos h2] at this ⊢
        unfold Nrm at this ⊢
        rwa [List.getLast?_cons_cons]
theorem val_pos_of_nrm {ds : List Nat} (h : Nrm ds) (hne : ds ≠ []) : 0 < val ds := by
  induction ds with
  | nil => exact absurd rfl hne
  | cons d ds ih =>
    rw [val_cons]
    cases ds with
    | nil => unfold Nrm at h; simp at h; omega
    | cons e es =>
      have : Nrm (e :: es) := by unfold Nrm at h ⊢; rwa [List.getLast?_cons_cons] at h
      have := ih this (by simp)
      omega
/-- A list without a 0 at its end is the canonical one of its value. -/
theorem digs_val {ds : List Nat} (h : OkD ds) (hn : Nrm ds) : digs (val ds) = ds := by
  induction ds with
  | nil => exact digs_zero
  | cons d ds ih =>
    obtain ⟨h1, h2⟩ := okD_cons.1 h
    have hp := val_pos_of_nrm hn (by simp)
    rw [digs_pos hp, val_cons]
    have e1 : (d + 4294967296 * val ds) % 4294967296 = d := by omega
    have e2 : (d + 4294967296 * val ds) / 4294967296 = val ds := by omega
    rw [e1, e2]
    cases ds with
    | nil => simp [val, digs_zero]
    | cons e es => rw [ih h2 (by unfold Nrm at hn ⊢; rwa [List.getLast?_cons_cons] at hn)]
theorem digs_length_le {x k : Nat} (h : x < Bs k) : (digs x).length ≤ k := by
  induction k generalizing x with
  | zero => rw [Bs_zero] at h; obtain rfl : x = 0 := by omega
            rw [digs_zero]; simp
  | succ k ih =>
    rcases Nat.eq_zero_or_pos x with hx | hx
    · subst hx; rw [digs_zero]; simp
    · rw [digs_pos hx, List.length_cons]
      rw [Bs_succ] at h
      have := ih (x := x / 4294967296) (by omega)
      omega
theorem lt_of_digs_length {x k : Nat} (h : (digs x).length ≤ k) : x < Bs k := by
  have := val_lt (okD_digs x); rw [val_digs] at this
  exact Nat.lt_of_lt_of_le this (Bs_mono h)
theorem digs_length_le_iff {x k : Nat} : (digs x).length ≤ k ↔ x < Bs k := ⟨lt_of_digs_length, digs_length_le⟩
theorem digs_length_mono {x y : Nat} (h : x ≤ y) : (digs x).length ≤ (digs y).length := digs_length_le (Nat.lt_of_le_of_lt h (lt_of_digs_length (Nat.le_refl _)))
theorem digs_length_pos {x : Nat} (h : 0 < x) : 0 < (digs x).length := by rw [digs_pos h]; simp
theorem le_of_digs_length {x : Nat} (h : 0 < x) : Bs ((digs x).length - 1) ≤ x := by
  rcases Nat.lt_or_ge x (Bs ((digs x).length - 1)) with hl | hl
  · have := digs_length_le hl; have := digs_length_pos h; omega
  · exact hl
theorem digs_inj {x y : Nat} (h : digs x = digs y) : x = y := by rw [← val_digs x, h, val_digs]
theorem digs_digit (x k : Nat) : (digs x).getD k 0 = x / Bs k % 4294967296 := by rw [val_digit _ (okD_digs x), val_digs]
/-- The list without the zeros at its end. -/
theorem digs_of_take {ds : List Nat} (h : OkD ds) {k : Nat} (hk : k ≤ ds.length) (hv : val (ds.take k) = val ds) (hn : k = 0 ∨ ds.getD (k - 1) 0 ≠ 0) : digs (val ds) = ds.take k := by
  rw [← hv]
  refine digs_val (okD_take h k) ?_
  unfold Nrm
  rcases hn with rfl | hn
  · simp
  · rcases Nat.eq_zero_or_pos k with rfl | hk0
    · simp
    · rw [List.getLast?_eq_getElem?, List.length_take, Nat.min_eq_left hk, List.getElem?_take, if_pos (by omega)]
      rw [List.getD_eq_getElem?_getD] at hn
      intro e; rw [e] at hn; exact hn rfl
theorem digs_one_digit {x : Nat} (h0 : 0 < x) (h : x < 4294967296) : digs x = [x] := by
  rw [digs_pos h0, Nat.mod_eq_of_lt h, Nat.div_eq_of_lt h, digs_zero]
theorem getD_of_ge {ds : List Nat} {k : Nat} (h : ds.length ≤ k) : ds.getD k 0 = 0 := by
  rw [List.getD_eq_getElem?_getD, List.getElem?_eq_none h]; rfl
theorem val_take_succ' (ds : List Nat) (k : Nat) : val (ds.take (k + 1)) = val (ds.take k) + Bs k * ds.getD k 0 := by
  rcases Nat.lt_or_ge k ds.length with h | h
  · exact val_take_succ ds k h
  · rw [List.take_of_length_le (by omega), List.take_of_length_le h, getD_of_ge h]; simp
theorem val_take_set {ds : List Nat} {k : Nat} (h : k < ds.length) (d : Nat) : val ((ds.set k d).take (k + 1)) = val (ds.take k) + Bs k * d := by
  rw [val_take_succ _ _ (by simpa using h), List.take_set_of_le (by omega), List.getD_eq_getElem?_getD, List.getElem?_set_self h]; rfl
theorem val_take_all {ds : List Nat} {k : Nat} (h : ds.length ≤ k) : val (ds.take k) = val ds := by rw [List.take_of_length_le h]
end Go.Proofs.YthmmnmajkeoaaabGreatDoor
namespace Go.Proofs.YthmmnmajkeoaaabGreatDoor
open Go.RowKit

theorem and_mask {x : Int} (h0 : 0 ≤ x) (h : x < 18446744073709551616) : bits .and .u64 x 4294967295 = x % 4294967296 := by
  obtain ⟨n, rfl⟩ := Int.eq_ofNat_of_zero_le h0
  have := u64_and_nat n 4294967295 (by omega) (by omega)
  rw [show ((4294967295 : Nat) : Int) = 4294967295 from rfl] at this
  rw [this, show (4294967295 : Nat) = 2 ^ 32 - 1 from rfl, Nat.and_two_pow_sub_one_eq_mod]
  omega

/-- A digit as a value. -/
def dv (d : Nat) : Value := .int .u32 (d : Int)

theorem addr_add_block (a : Addr) (n : Nat) : (a.add n).block = a.block := by unfold Addr.add; split <;> rfl
theorem addr_add_add (a : Addr) (i j : Nat) : (a.add i).add j = a.add (i + j) := by
  unfold Addr.add
  by_cases hi : i = 0 <;> by_cases hj : j = 0 <;> simp [hi, hj, Nat.add_assoc]
theorem addr_add_lit (g o j : Nat) : (⟨g, o, none⟩ : Addr).add j = ⟨g, o + j, none⟩ := by
  unfold Addr.add; by_cases hj : j = 0 <;> simp [hj]

/-- The slice value v reads as the digits ds (zeros at the end are allowed), in a block that is there. -/
def Raw (w : World) (v : Value) (ds : List Nat) : Prop :=
  OkD ds ∧ ds.length ≤ 1000000000 ∧ ∃ (A : Option Addr) (c : Nat), v = .slice A ds.length c ∧ ds.length ≤ c ∧
    ∀ j, j < ds.length → ∃ ad, A = some ad ∧ ad.block < w.heap.size ∧ w.cell? (ad.add j) = some (.int .u32 (ds.getD j 0 : Nat))

/-- The slice value v reads as the canonical digits of x. -/
def Num (w : World) (v : Value) (x : Nat) : Prop := Raw w v (digs x)

section
variable {w w' : World} {v : Value} {ds : List Nat}
theorem Raw.okD (h : Raw w v ds) : OkD ds := h.1
theorem Raw.len (h : Raw w v ds) : ds.length ≤ 1000000000 := h.2.1
theorem Raw.cap {A : Option Addr} {n c : Nat} (h : Raw w (.slice A n c) ds) : n = ds.length ∧ n ≤ c := by
  obtain ⟨_, _, A', c', e, hc, _⟩ := h
  injection e with _ h2 h3
  subst h3; exact ⟨h2, by omega⟩
theorem Raw.at_ {A : Option Addr} {n c : Nat} (h : Raw w (.slice A n c) ds) {j : Nat} (hj : j < ds.length) :
    ∃ ad, A = some ad ∧ ad.block < w.heap.size ∧ w.cell? (ad.add j) = some (.int .u32 (ds.getD j 0 : Nat)) := by
  obtain ⟨_, _, A', c', e, _, hcell⟩ := h
  injection e with h1
  subst h1; exact hcell j hj
theorem Raw.block {A : Option Addr} {n c : Nat} (h : Raw w (.slice A n c) ds) (hl : 0 < ds.length) (ad : Addr) (hA : A = some ad) : ad.block < w.heap.size := by
  obtain ⟨ad', e, hb, _⟩ := h.at_ hl
  rw [e] at hA
  injection hA with hA
  rw [← hA]; exact hb
theorem Raw.keep (h : Raw w v ds) (hs : w.heap.size ≤ w'.heap.size) (hk : ∀ p : Addr, p.block < w.heap.size → w'.cell? p = w.cell? p) : Raw w' v ds := by
  obtain ⟨h1, h2, A, c, e, hc, hcell⟩ := h
  refine ⟨h1, h2, A, c, e, hc, fun j hj => ?_⟩
  obtain ⟨ad, e1, e2, e3⟩ := hcell j hj
  exact ⟨ad, e1, by omega, (hk _ (by rw [addr_add_block]; exact e2)).trans e3⟩
theorem Raw.below (h : Raw w v ds) (hb : Below w.heap.size w w') : Raw w' v ds := h.keep hb.size fun _ hp => hb.cell hp
/-- A store into another block, or a call that changes another block alone, keeps it. -/
theorem Raw.keepBut (h : Raw w v ds) {g : Nat} (hg : w.grownBy w' (some g)) (hne : 0 < ds.length → ∀ A n c, v = .slice A n c → ∀ ad, A = some ad → ad.block ≠ g) : Raw w' v ds := by
  obtain ⟨h1, h2, A, c, e, hc, hcell⟩ := h
  refine ⟨h1, h2, A, c, e, hc, fun j hj => ?_⟩
  obtain ⟨ad, e1, e2, e3⟩ := hcell j hj
  refine ⟨ad, e1, Nat.lt_of_lt_of_le e2 hg.size, ?_⟩
  refine (World.cell?_of_block (hg.block _ (by rw [addr_add_block]; exact e2) ?_)).trans e3
  rw [addr_add_block]
  intro he
  exact hne (by omega) _ _ _ e ad e1 (by injection he)
theorem Raw.drewN (h : Raw w v ds) (k : Nat) : Raw (w.drewN k) v ds := h
theorem Num.below {x : Nat} (h : Num w v x) (hb : Below w.heap.size w w') : Num w' v x := Raw.below h hb
theorem raw_nil (A : Option Addr) (c : Nat) : Raw w (.slice A 0 c) [] :=
  ⟨okD_nil, by simp, A, c, rfl, Nat.zero_le _, fun j hj => by simp at hj⟩
theorem num_zero (A : Option Addr) (c : Nat) : Num w (.slice A 0 c) 0 := by unfold Num; rw [digs_zero]; exact raw_nil A c
/-- A cut in front. -/
theorem Raw.take {A : Option Addr} {n c : Nat} (h : Raw w (.slice A n c) ds) {k : Nat} (hk : k ≤ ds.length) : Raw w (.slice A k c) (ds.take k) := by
  have hc := h.cap
  refine ⟨okD_take h.okD k, by rw [List.length_take]; have := h.len; omega, A, c, by rw [List.length_take, Nat.min_eq_left hk], by rw [List.length_take]; omega, fun j hj => ?_⟩
  rw [List.length_take] at hj
  obtain ⟨ad, e1, e2, e3⟩ := h.at_ (j := j) (by omega)
  refine ⟨ad, e1, e2, e3.trans ?_⟩
  rw [List.getD_eq_getElem?_getD, List.getD_eq_getElem?_getD, List.getElem?_take, if_pos (by omega)]
/-- A cut behind. -/
theorem Raw.drop {A : Option Addr} {n c : Nat} (h : Raw w (.slice A n c) ds) {k : Nat} (hk : k ≤ ds.length) : Raw w (.slice (if c = k then A else A.map (·.add k)) (n - k) (c - k)) (ds.drop k) := by
  have hc := h.cap
  refine ⟨okD_drop h.okD k, by rw [List.length_drop]; have := h.len; omega, _, _, by rw [List.length_drop, hc.1], by rw [List.length_drop]; omega, fun j hj => ?_⟩
  rw [List.length_drop] at hj
  obtain ⟨ad, e1, e2, e3⟩ := h.at_ (j := k + j) (by omega)
  rw [if_neg (by omega)]
  refine ⟨ad.add k, by rw [e1]; rfl, by rw [addr_add_block]; exact e2, ?_⟩
  rw [addr_add_add, e3, List.getD_eq_getElem?_getD, List.getD_eq_getElem?_getD, List.getElem?_drop]
end

/-- Block g begins with the digits ds, and may be written. -/
def Own (w : World) (g : Nat) (ds : List Nat) : Prop := ∃ extra : List Value, w.heap[g]? = some (.cells (ds.map dv ++ extra).toArray 149 (0, 0))

section
variable {w w' : World} {g : Nat} {ds : List Nat}
theorem Own.lt (h : Own w g ds) : g < w.heap.size := by
  obtain ⟨ex, h⟩ := h
  rcases Nat.lt_or_ge g w.heap.size with hlt | hge
  · exact hlt
  · rw [Array.getElem?_eq_none hge] at h; cases h
theorem Own.cell (h : Own w g ds) {j : Nat} (hj : j < ds.length) : w.cell? ⟨g, j, none⟩ = some (.int .u32 (ds.getD j 0 : Nat)) := by
  obtain ⟨ex, h⟩ := h
  rw [cell_of_row w g j _ _ _ h]
  rw [List.getElem?_toArray, List.getElem?_append_left (by simpa using hj)]
  simp [List.getElem?_eq_getElem hj, dv]
theorem Own.frozen (h : Own w g ds) (j : Nat) : w.frozen? ⟨g, j, none⟩ = false := by
  obtain ⟨ex, h⟩ := h
  exact frozen_of_row w g j _ _ h
theorem Own.set (h : Own w g ds) (j d : Nat) : Own (w.setCell ⟨g, j, none⟩ (.int .u32 (d : Int))) g (ds.set j d) := by
  obtain ⟨ex, h⟩ := h
  have := heap_setCell_same w g j _ _ (.int .u32 (d : Int)) h
  rcases Nat.lt_or_ge j ds.length with hj | hj
  · refine ⟨ex, ?_⟩
    rw [this]
    simp [List.map_set, dv, hj]
  · refine ⟨ex.set (j - ds.length) (.int .u32 (d : Int)), ?_⟩
    rw [this, List.set_eq_of_length_le hj]
    simp [List.set_append, Nat.not_lt.2 hj]
theorem Own.block {g' : Nat} (h : Own w g ds) (e : w'.heap[g']? = w.heap[g]?) : Own w' g' ds := by
  obtain ⟨ex, h⟩ := h; exact ⟨ex, e.trans h⟩
theorem Own.far (h : Own w g ds) {p : Addr} (hp : g ≠ p.block) (u : Value) : Own (w.setCell p u) g ds := h.block (heap_setCell_other w p g u hp)
theorem Own.below {B : Nat} (h : Own w g ds) (hb : Below B w w') (hg : g < B) : Own w' g ds := h.block (hb.block g hg)
theorem Own.grown {row : Option Nat} (h : Own w g ds) (hb : w.grownBy w' row) (hg : some g ≠ row) : Own w' g ds := h.block (hb.block g h.lt hg)
theorem Own.drewN (h : Own w g ds) (k : Nat) : Own (w.drewN k) g ds := h
/-- A slice over a part of the block. -/
theorem Own.raw (h : Own w g ds) (hd : OkD ds) (hl : ds.length ≤ 1000000000) (o n c : Nat) (hn : o + n ≤ ds.length) (hc : n ≤ c) :
    Raw w (.slice (some ⟨g, o, none⟩) n c) ((ds.drop o).take n) := by
  have hlen : ((ds.drop o).take n).length = n := by rw [List.length_take, List.length_drop]; omega
  refine ⟨okD_take (okD_drop hd o) n, by omega, some ⟨g, o, none⟩, c, by rw [hlen], by omega, fun j hj => ⟨_, rfl, h.lt, ?_⟩⟩
  rw [hlen] at hj
  rw [addr_add_lit, h.cell (by omega), List.getD_eq_getElem?_getD, List.getD_eq_getElem?_getD, List.getElem?_take, if_pos hj, List.getElem?_drop]
theorem Own.raw_all (h : Own w g ds) (hd : OkD ds) (hl : ds.length ≤ 1000000000) (n c : Nat) (hn : n = ds.length) (hc : n ≤ c) : Raw w (.slice (some ⟨g, 0, none⟩) n c) ds := by
  have := h.raw hd hl 0 n c (by omega) hc
  rwa [List.drop_zero, List.take_of_length_le (by omega)] at this
end

theorem Tryz.info_u32 : (Tryz.prog.info? 149).map (fun i => (i.zero, i.size, i.bytes)) = some (some (.int .u32 0), 1, 4) := by kernel_rfl

/-- make of n digits: a new block of zeros. T: the slice type's number. -/
theorem make_row {T : TypeId} (hT : Tryz.prog.underlying T = some (.slice 149)) (n : Nat) (hn : n ≤ 1000000000) (w : World) :
    ∃ w', (Instr.makeSlice T (.int .i64 (n : Int)) (.int .i64 (n : Int))).run Tryz.prog w = .ok (.slice (some ⟨w.heap.size, 0, none⟩) n n) w' ∧ Own w' w.heap.size (List.replicate n 0) ∧ Below w.heap.size w w' ∧ w'.heap.size = w.heap.size + 1 := by
  obtain ⟨i, hi, hz, hs, hby⟩ := info_parts Tryz.info_u32
  have hr := run_make (P := Tryz.prog) w T 149 i (.int .u32 0) hT hi hz .i64 .i64 n n (by omega) (Int.le_refl _) (by rw [hby]; omega) (by omega)
  simp only [Int.toNat_natCast] at hr
  refine ⟨_, hr, ?_, (Below.refl _ _).alloc (Nat.le_refl _) _, by simp⟩
  refine ⟨[], ?_⟩
  rw [heap_alloc_new, List.append_nil]
  rw [show (madeCells (Value.int .u32 0).cells (n * i.size)) = ((List.replicate n 0).map dv).toArray from ?_]
  apply Array.toList_inj.1
  rw [hs, Nat.mul_one]
  show (madeCells #[Value.int .u32 0] n).toList = _
  rw [toList_madeCells_one]
  simp [dv]
end Go.Proofs.YthmmnmajkeoaaabGreatDoor
namespace Go.Proofs.YthmmnmajkeoaaabGreatDoor
open Go.RowKit

/-- v is the call's own: nil, or the head of a block from B on. -/
def Grow (w : World) (B : Nat) (v : Value) (ds : List Nat) : Prop := OkD ds ∧ w.ownsRow B 149 1 v ds.length (ds.map dv)

theorem below_drewN {B : Nat} {a w : World} (h : Below B a w) (n : Nat) : Below B a (w.drewN n) := ⟨h.os, h.tape, h.output, h.size, h.block⟩

section
variable {w w' : World} {B : Nat} {v : Value} {ds : List Nat}
theorem Grow.okD (h : Grow w B v ds) : OkD ds := h.1
theorem grow_nil (w : World) (B : Nat) : Grow w B (.slice none 0 0) [] := ⟨okD_nil, by simp, .inl ⟨rfl, rfl⟩⟩
theorem Grow.own (h : Grow w B v ds) (hn : ds ≠ []) : ∃ g cap, v = .slice (some ⟨g, 0, none⟩) ds.length cap ∧ B ≤ g ∧ Own w g ds ∧ ds.length ≤ cap := by
  obtain ⟨_, _, h⟩ := h
  rcases h with ⟨_, h0⟩ | ⟨g, cap, cur, hv, hB, hh, hnc, _, hsz, ht⟩
  · exact absurd (List.eq_nil_of_length_eq_zero h0) hn
  · refine ⟨g, cap, hv, hB, ⟨cur.toList.drop ds.length, ?_⟩, hnc⟩
    rw [Nat.mul_one] at ht
    rw [hh, ← ht, List.take_append_drop]
theorem Grow.raw (h : Grow w B v ds) (hl : ds.length ≤ 1000000000) : Raw w v ds := by
  rcases List.eq_nil_or_concat ds with rfl | ⟨_, _, e⟩
  · obtain ⟨_, _, h⟩ := h
    rcases h with ⟨rfl, _⟩ | ⟨g, cap, cur, rfl, _⟩
    · exact raw_nil _ _
    · exact raw_nil _ _
  · obtain ⟨g, cap, rfl, _, ho, hc⟩ := h.own (by rw [e]; simp)
    exact ho.raw_all h.okD hl _ _ rfl hc
theorem Grow.form (h : Grow w B v ds) : ∃ A cap, v = .slice A ds.length cap := by
  obtain ⟨_, _, h⟩ := h
  rcases h with ⟨rfl, h0⟩ | ⟨g, cap, cur, rfl, _⟩
  · exact ⟨none, 0, by rw [h0]⟩
  · exact ⟨_, _, rfl⟩
end

theorem raw_alloc {w : World} {v : Value} {ds : List Nat} (h : Raw w v ds) (o : Obj) : Raw (w.alloc o) v ds := h.below ((Below.refl _ _).alloc (Nat.le_refl _) o)
theorem grow_empty (w : World) : Grow (w.alloc (.cells #[] 149)) w.heap.size (.slice (some ⟨w.heap.size, 0, none⟩) 0 0) [] :=
  ⟨okD_nil, by simp, .inr ⟨_, 0, #[], rfl, Nat.le_refl _, heap_alloc_new w _, Nat.le_refl _, Nat.zero_le _, rfl, rfl⟩⟩
theorem below_alloc (w : World) (o : Obj) : Below w.heap.size w (w.alloc o) := (Below.refl _ _).alloc (Nat.le_refl _) o

theorem append_two {P : Program} {t t' ty e e' : TypeId} (ht : P.underlying t = some (.slice e)) (ht' : P.underlying t' = some (.slice e')) (A : Option Addr) (k c : Nat) (x : Value) (w : World) :
    (Builtin.append_ #[t, t'] ty #[.slice A k c, x]).run P w = (Builtin.append_ #[t, t] ty #[.slice A k c, x]).run P w := by
  simp [Builtin.append_, run_underlying ht, run_underlying ht']

theorem run_append_digs {t t' ty : TypeId} (ht : Tryz.prog.underlying t = some (.slice 149)) (ht' : Tryz.prog.underlying t' = some (.slice 149)) {w : World} {B : Nat} {v : Value} {ds es : List Nat} {A : Option Addr} {n c : Nat}
    (hv : Grow w B v ds) (hr : Raw w (.slice A n c) es) (hB : B ≤ w.heap.size) (hl : ds.length + es.length ≤ 1000000000) :
    ∃ v' w', (Builtin.append_ #[t, t'] ty #[v, .slice A n c]).run Tryz.prog w = .ok v' w' ∧ Grow w' B v' (ds ++ es) ∧ w.grownBy w' v.ownBlock ∧ Below B w w' := by
  obtain ⟨i, hi, hz, hs, hby⟩ := info_parts Tryz.info_u32
  obtain ⟨hn, _⟩ := hr.cap
  obtain ⟨A0, cap0, hform⟩ := hv.form
  have htwo := append_two (ty := ty) ht ht' A0 ds.length cap0 (.slice A n c) w
  rw [← hform] at htwo
  rw [htwo]
  rcases Nat.eq_zero_or_pos es.length with h0 | h0
  · have he : es = [] := List.eq_nil_of_length_eq_zero h0
    subst he
    have hn0 : n = 0 := by simpa using hn
    subst hn0
    obtain ⟨A', cap, rfl⟩ := hv.form
    have hcap : ds.length ≤ cap := by
      obtain ⟨_, _, h⟩ := hv
      rcases h with ⟨h, h1⟩ | ⟨g, cap', cur, h, _, _, hnc, _⟩
      · omega
      · injection h with _ _ h; omega
    refine ⟨_, w.drewN 0, ?_, by rw [List.append_nil]; exact hv, ⟨rfl, rfl, rfl, Nat.le_refl _, fun _ _ _ => rfl⟩, below_drewN (Below.refl _ _) 0⟩
    rw [World.drewN_zero]
    rcases A with _ | a
    · rcases A' with _ | a'
      · simp [Builtin.append_, run_underlying ht, sizeOf, typeInfo, hi, Builtin.lenOf, Builtin.firstCells, hcap]
      · simp [Builtin.append_, run_underlying ht, sizeOf, typeInfo, hi, Builtin.lenOf, Builtin.firstCells, hcap, storeCells]
    · have hf := run_firstCells_some (P := Tryz.prog) w i.size 0 a 0 c [] (by simp) (by simp)
      rcases A' with _ | a'
      · simp [Builtin.append_, run_underlying ht, sizeOf, typeInfo, hi, Builtin.lenOf, hcap, hf]
      · simp [Builtin.append_, run_underlying ht, sizeOf, typeInfo, hi, Builtin.lenOf, hcap, hf, storeCells]
  · obtain ⟨ad, rfl, hb, _⟩ := hr.at_ h0
    have hnews : ∀ j u, (es.map dv)[j]? = some u → w.cell? (ad.add j) = some u := fun j u hu => by
      rw [List.getElem?_map] at hu
      rcases Nat.lt_or_ge j es.length with hj | hj
      · rw [List.getElem?_eq_getElem hj] at hu
        obtain ⟨ad', e1, _, e3⟩ := hr.at_ hj
        have e2 : ad = ad' := Option.some.inj e1
        rw [e2, e3, ← hu, List.getD_eq_getElem?_getD, List.getElem?_eq_getElem hj]; rfl
      · rw [List.getElem?_eq_none hj] at hu; cases hu
    have hone : ∀ u ∈ es.map dv, u.oneCell' = true := fun u hu => by
      obtain ⟨d, _, rfl⟩ := List.mem_map.1 hu
      rfl
    have h63 : ds.length + n ≤ maxLen := by simp only [maxLen]; omega
    have hbytes : (ds.length + n) * 4 ≤ 140737488355328 := by omega
    obtain ⟨v', w', h1, h2, h3, _⟩ := run_append_own (P := Tryz.prog) w B t ty 149 i (.int .u32 0) 1 4 ht hi hz hs hby rfl (by omega) v ds.length (ds.map dv) hv.2 ad n c (es.map dv) (by simp [hn]) hnews hone h63 hbytes hB
    refine ⟨v', w', h1, ⟨okD_append.2 ⟨hv.okD, hr.okD⟩, by rw [List.length_append, ← hn, List.map_append]; exact h2⟩, h3, (Below.refl B w).grown h3 hB (fun k hk => ?_)⟩
    obtain ⟨_, _, h⟩ := hv
    rcases h with ⟨rfl, _⟩ | ⟨g, cap', cur, rfl, hg, _⟩
    · simp [Value.ownBlock] at hk
    · simp [Value.ownBlock] at hk; omega

theorem wpList_append_digs {ops : Array Oper} {rest : List Oper} {o : Oper} {a : Act} {w : World} {Q : Exit → Act → World → Prop} (hgd : o.guard = none) (s x : Operand) (t t' : TypeId)
    (ho : o.op = .call { callee := .builtin .append, args := #[s, x], argTypes := #[t, t'] })
    (ht : Tryz.prog.underlying t = some (.slice 149)) (ht' : Tryz.prog.underlying t' = some (.slice 149)) (B : Nat) {v : Value} {ds es : List Nat} {A : Option Addr} {n c : Nat}
    (hs : a.eval s = v) (hv : Grow w B v ds) (hx : a.eval x = .slice A n c) (hr : Raw w (.slice A n c) es) (hB : B ≤ w.heap.size) (hl : ds.length + es.length ≤ 1000000000)
    (h : ∀ v' w', Grow w' B v' (ds ++ es) → w.grownBy w' v.ownBlock → Below B w w' → wpList Tryz.prog ops Q rest (a.put o.dst v') w') : wpList Tryz.prog ops Q (o :: rest) a w :=
  wpList_plain hgd fun _ hK => by
    obtain ⟨v', w', hrun, h2, h3, h4⟩ := run_append_digs (ty := o.type) ht ht' hv hr hB hl
    unfold Oper.wp execOp
    simp only [ho, resolve, invoke, builtin, Sem.run_bind, Sem.run_pure, Result.andThen_ok, List.map_toArray, List.map_cons, List.map_nil, hs, hx, hrun]
    exact hK _ _ (h v' w' h2 h3 h4)
end Go.Proofs.YthmmnmajkeoaaabGreatDoor
namespace Go.Proofs.YthmmnmajkeoaaabGreatDoor
open Go.RowKit

theorem trim_core (A : Option Addr) (n : Nat) (ds : List Nat) (c : Nat) (w : World) (h : Raw w (.slice A n c) ds) :
    Calls Tryz.prog 114 #[.slice A n c] w fun e w' => ∃ k, e = .returned (.slice A k c) ∧ k ≤ n ∧ digs (val ds) = ds.take k ∧ w = w' := by
  obtain ⟨hn, hlc⟩ := h.cap
  have hd := h.okD
  have hl := h.len
  subst hn
  have HC := Lib.hid (fun j (hj : j < ds.length) => h.at_ hj)
  clear h
  go_enter Tryz.func114, Tryz.ntmps114
  go_wp2
  go_loop [3] (fun n => ∃ k : Nat, k ≤ ds.length ∧ n = .int .i64 k ∧ val (ds.take k) = val ds) (fun n => (intOf n).toNat)
  case atStart => exact ⟨ds.length, Nat.le_refl _, rfl, by simp⟩
  case round =>
    obtain ⟨k, hk, rfl, hv⟩ := hrel
    have HV := Lib.hid hv
    clear hv
    rcases Nat.eq_zero_or_pos k with rfl | hk0
    · go_wp2
      go_ret
      exact ⟨0, rfl, by omega, digs_of_take hd (by omega) HV.out (.inl rfl), rfl⟩
    · have hlt : k - 1 < ds.length := by omega
      obtain ⟨ad, hA, hb, hc⟩ := HC.out (k - 1) hlt
      subst hA
      have hsucc := val_take_succ ds (k - 1) hlt
      rw [show k - 1 + 1 = k by omega] at hsucc
      have HS := Lib.hid hsucc
      clear hsucc
      generalize hdd : ds.getD (k - 1) 0 = d at *
      have HD := Lib.hid hdd
      clear hdd
      by_cases hz : d = 0
      · subst hz
        go_wp2
        go_round
        case rel => exact ⟨k - 1, by omega, by go_num, by rw [← HV.out, HS.out]; simp⟩
        case measure => simp [intOf]; omega
      · have hz' : ((d : Int) == 0) = false := by simpa using hz
        have HZ := Lib.hid hz
        clear hz
        go_wp2
        go_ret
        exact ⟨k, rfl, hk, digs_of_take hd hk HV.out (.inr (by rw [HD.out]; exact HZ.out)), rfl⟩

/-- trim returns the canonical digits, in the memory of its argument; the world stays. -/
theorem trim_any {A : Option Addr} {n c : Nat} {ds : List Nat} {w : World} (h : Raw w (.slice A n c) ds) :
    Calls Tryz.prog 114 #[.slice A n c] w fun e w' => e = .returned (.slice A (digs (val ds)).length c) ∧ Num w (.slice A (digs (val ds)).length c) (val ds) ∧ digs (val ds) = ds.take (digs (val ds)).length ∧ w = w' := by
  refine (trim_core A n ds c w h).mono ?_
  rintro e w' ⟨k, rfl, hk, hd, rfl⟩
  have hc := h.cap
  have hlen : (digs (val ds)).length = k := by rw [hd, List.length_take]; omega
  refine ⟨by rw [hlen], ?_, by rw [hlen]; exact hd, rfl⟩
  rw [hlen]; unfold Num; rw [hd]
  exact h.take (by omega)

/-- The same with a name for the value. -/
theorem trim_is {A : Option Addr} {n c x : Nat} {ds : List Nat} {w : World} (h : Raw w (.slice A n c) ds) (hv : Hid (val ds = x)) :
    Calls Tryz.prog 114 #[.slice A n c] w fun e w' => e = .returned (.slice A (digs x).length c) ∧ Num w (.slice A (digs x).length c) x ∧ w = w' := by
  refine (trim_any h).mono ?_
  rintro e w' ⟨rfl, hn, -, rfl⟩
  rw [hv.out] at hn ⊢
  exact ⟨rfl, hn, rfl⟩

theorem digit_any {A : Option Addr} {n c : Nat} {ds : List Nat} {w : World} (h : Raw w (.slice A n c) ds) (i : Nat) :
    Calls Tryz.prog 135 #[.slice A n c, .int .i64 (i : Int)] w fun e w' => e = .returned (.int .u64 (ds.getD i 0 : Nat)) ∧ w = w' := by
  obtain ⟨hn, hlc⟩ := h.cap
  have hl := h.len
  have hd := okD_getD h.okD i
  subst hn
  by_cases hlt : i < ds.length
  · obtain ⟨ad, hA, hb, hc⟩ := h.at_ hlt
    subst hA
    generalize hdd : ds.getD i 0 = d at *
    have HD := Lib.hid hdd
    clear hdd h
    go_enter Tryz.func135, Tryz.ntmps135
    go_wp2
    go_ret
    exact ⟨rfl, rfl⟩
  · have hz : ds.getD i 0 = 0 := by rw [List.getD_eq_getElem?_getD, List.getElem?_eq_none (by omega)]; rfl
    rw [hz]
    clear h hz hd
    go_enter Tryz.func135, Tryz.ntmps135
    go_wp2
    go_ret
    exact ⟨rfl, rfl⟩

/-- The same with a name for the digit. -/
theorem digit_is {A : Option Addr} {n c : Nat} {ds : List Nat} {w : World} (h : Raw w (.slice A n c) ds) {i d : Nat} (hd : Hid (ds.getD i 0 = d)) :
    Calls Tryz.prog 135 #[.slice A n c, .int .i64 (i : Int)] w fun e w' => e = .returned (.int .u64 (d : Int)) ∧ w = w' := by
  have := digit_any h i
  rw [hd.out] at this
  exact this

theorem order_any (b : Bool) (w : World) : Calls Tryz.prog 125 #[.bool b] w fun e w' => e = .returned (.int .i64 (if b then -1 else 1)) ∧ w = w' := by
  cases b
  · go_enter Tryz.func125, Tryz.ntmps125
    go_wp2
    go_ret
    exact ⟨rfl, rfl⟩
  · go_enter Tryz.func125, Tryz.ntmps125
    go_wp2
    go_ret
    exact ⟨rfl, rfl⟩
end Go.Proofs.YthmmnmajkeoaaabGreatDoor
namespace Go.Proofs.YthmmnmajkeoaaabGreatDoor
open Go.RowKit

theorem ntrim_core (A : Option Addr) (n : Nat) (ds : List Nat) (c : Nat) (w : World) (h : Raw w (.slice A n c) ds) :
    Calls Tryz.prog 84 #[.slice A n c] w fun e w' => ∃ k, e = .returned (.slice A k c) ∧ k ≤ n ∧ digs (val ds) = ds.take k ∧ w = w' := by
  obtain ⟨hn, hlc⟩ := h.cap
  have hd := h.okD
  have hl := h.len
  subst hn
  have HC := Lib.hid (fun j (hj : j < ds.length) => h.at_ hj)
  clear h
  go_enter Tryz.func84, Tryz.ntmps84
  go_wp2
  go_loop [3] (fun n => ∃ k : Nat, k ≤ ds.length ∧ n = .int .i64 k ∧ val (ds.take k) = val ds) (fun n => (intOf n).toNat)
  case atStart => exact ⟨ds.length, Nat.le_refl _, rfl, by simp⟩
  case round =>
    obtain ⟨k, hk, rfl, hv⟩ := hrel
    have HV := Lib.hid hv
    clear hv
    rcases Nat.eq_zero_or_pos k with rfl | hk0
    · go_wp2
      go_ret
      exact ⟨0, rfl, by omega, digs_of_take hd (by omega) HV.out (.inl rfl), rfl⟩
    · have hlt : k - 1 < ds.length := by omega
      obtain ⟨ad, hA, hb, hc⟩ := HC.out (k - 1) hlt
      subst hA
      have hsucc := val_take_succ ds (k - 1) hlt
      rw [show k - 1 + 1 = k by omega] at hsucc
      have HS := Lib.hid hsucc
      clear hsucc
      generalize hdd : ds.getD (k - 1) 0 = d at *
      have HD := Lib.hid hdd
      clear hdd
      by_cases hz : d = 0
      · subst hz
        go_wp2
        go_round
        case rel => exact ⟨k - 1, by omega, by go_num, by rw [← HV.out, HS.out]; simp⟩
        case measure => simp [intOf]; omega
      · have hz' : ((d : Int) == 0) = false := by simpa using hz
        have HZ := Lib.hid hz
        clear hz
        go_wp2
        go_ret
        exact ⟨k, rfl, hk, digs_of_take hd hk HV.out (.inr (by rw [HD.out]; exact HZ.out)), rfl⟩

/-- trim returns the canonical digits, in the memory of its argument; the world stays. -/
theorem ntrim_any {A : Option Addr} {n c : Nat} {ds : List Nat} {w : World} (h : Raw w (.slice A n c) ds) :
    Calls Tryz.prog 84 #[.slice A n c] w fun e w' => e = .returned (.slice A (digs (val ds)).length c) ∧ Num w (.slice A (digs (val ds)).length c) (val ds) ∧ digs (val ds) = ds.take (digs (val ds)).length ∧ w = w' := by
  refine (ntrim_core A n ds c w h).mono ?_
  rintro e w' ⟨k, rfl, hk, hd, rfl⟩
  have hc := h.cap
  have hlen : (digs (val ds)).length = k := by rw [hd, List.length_take]; omega
  refine ⟨by rw [hlen], ?_, by rw [hlen]; exact hd, rfl⟩
  rw [hlen]; unfold Num; rw [hd]
  exact h.take (by omega)

/-- The same with a name for the value. -/
theorem ntrim_is {A : Option Addr} {n c x : Nat} {ds : List Nat} {w : World} (h : Raw w (.slice A n c) ds) (hv : Hid (val ds = x)) :
    Calls Tryz.prog 84 #[.slice A n c] w fun e w' => e = .returned (.slice A (digs x).length c) ∧ Num w (.slice A (digs x).length c) x ∧ w = w' := by
  refine (ntrim_any h).mono ?_
  rintro e w' ⟨rfl, hn, -, rfl⟩
  rw [hv.out] at hn ⊢
  exact ⟨rfl, hn, rfl⟩

set_option maxRecDepth 100000 in
/-- Norm: a copy of its own. -/
theorem norm_is {A : Option Addr} {n c x : Nat} {ds : List Nat} {w : World} (hx : Raw w (.slice A n c) ds) (hvx : Hid (val ds = x)) :
    Calls Tryz.prog 108 #[.slice A n c] w fun e w' => ∃ v, e = .returned v ∧ Grow w' w.heap.size v (digs x) ∧ Below w.heap.size w w' := by
  go_enter Tryz.func108, Tryz.ntmps108
  go_wp2_with fail
  refine (trim_is hx hvx).mono ?_
  rintro e w' ⟨rfl, hX, rfl⟩
  have hl := Raw.len hX
  go_wp2_with (at_builtin; refine wpList_append_digs rfl _ _ _ _ rfl Tryz.underlying59 Tryz.underlying59 w.heap.size rfl (grow_nil _ _) rfl hX (Nat.le_refl _) (by simpa using hl) ?_; intro v' w1 hg hgr hb)
  rw [List.nil_append] at hg
  go_wp2_with fail
  go_ret
  exact ⟨_, rfl, hg, hb⟩

theorem val_two (a b : Nat) : val [a, b] = a + 4294967296 * b := by simp [val]
theorem okD_two {a b : Nat} (ha : a < 4294967296) (hb : b < 4294967296) : OkD [a, b] := okD_cons.2 ⟨ha, okD_cons.2 ⟨hb, okD_nil⟩⟩
theorem okD_one {a : Nat} (ha : a < 4294967296) : OkD [a] := okD_cons.2 ⟨ha, okD_nil⟩
/-- A literal slice lies in a block of its own. -/
theorem own_lit (w : World) (cs : Array Value) (ds : List Nat) (h : cs.toList = ds.map dv) : Own (w.alloc (.cells cs 149)) w.heap.size ds :=
  ⟨[], by rw [heap_alloc_new, List.append_nil, ← h]⟩

set_option maxRecDepth 100000 in
theorem fromuint_any (u : Nat) (hu : u < 18446744073709551616) (w : World) :
    Calls Tryz.prog 83 #[.int .u64 (u : Int)] w fun e w' => ∃ B k d, e = .returned (.slice B k d) ∧ Num w' (.slice B k d) u ∧ Below w.heap.size w w' := by
  have hown : Own (w.alloc (.cells #[.int .u32 ((u : Int) % 4294967296), .int .u32 ((u : Int) / 4294967296)] 149)) w.heap.size [u % 4294967296, u / 4294967296] := own_lit w _ _ (by simp [dv])
  have hraw := hown.raw_all (okD_two (by omega) (by omega)) (by simp) 2 2 rfl (Nat.le_refl _)
  have hv : val [u % 4294967296, u / 4294967296] = u := by rw [val_two]; omega
  have HV := Lib.hid hv
  have hb : Below w.heap.size w (w.alloc (.cells #[.int .u32 ((u : Int) % 4294967296), .int .u32 ((u : Int) / 4294967296)] 149)) := (Below.refl _ _).alloc (Nat.le_refl _) _
  clear hv hown
  go_enter Tryz.func83, Tryz.ntmps83
  go_wp2_with fail
  refine (trim_is hraw HV).mono ?_
  rintro e w' ⟨rfl, hN, rfl⟩
  go_wp2_with fail
  go_ret
  exact ⟨_, _, _, rfl, hN, hb⟩

set_option maxRecDepth 100000 in
theorem word_any (u : Nat) (hu : u < 18446744073709551616) (w : World) :
    Calls Tryz.prog 65 #[.int .u64 (u : Int)] w fun e w' => ∃ B k d, e = .returned (.slice B k d) ∧ Num w' (.slice B k d) u ∧ Below w.heap.size w w' := by
  have hown : Own (w.alloc (.cells #[.int .u32 ((u : Int) % 4294967296), .int .u32 ((u : Int) / 4294967296)] 149)) w.heap.size [u % 4294967296, u / 4294967296] := own_lit w _ _ (by simp [dv])
  have hraw := hown.raw_all (okD_two (by omega) (by omega)) (by simp) 2 2 rfl (Nat.le_refl _)
  have hv : val [u % 4294967296, u / 4294967296] = u := by rw [val_two]; omega
  have HV := Lib.hid hv
  have hb : Below w.heap.size w (w.alloc (.cells #[.int .u32 ((u : Int) % 4294967296), .int .u32 ((u : Int) / 4294967296)] 149)) := (Below.refl _ _).alloc (Nat.le_refl _) _
  clear hv hown
  go_enter Tryz.func65, Tryz.ntmps65
  go_wp2_with fail
  refine (ntrim_is hraw HV).mono ?_
  rintro e w' ⟨rfl, hN, rfl⟩
  go_wp2_with fail
  go_ret
  exact ⟨_, _, _, rfl, hN, hb⟩

set_option maxRecDepth 100000 in
/-- ToN: a copy. -/
theorem ton_any {A : Option Addr} {n c : Nat} {ds : List Nat} {w : World} (hx : Raw w (.slice A n c) ds) :
    Calls Tryz.prog 67 #[.slice A n c] w fun e w' => ∃ v, e = .returned v ∧ Grow w' w.heap.size v ds ∧ Below w.heap.size w w' := by
  have hl := Raw.len hx
  go_enter Tryz.func67, Tryz.ntmps67
  go_wp2_with (at_builtin; refine wpList_append_digs rfl _ _ _ _ rfl Tryz.underlying59 Tryz.underlying45 w.heap.size rfl (grow_empty w) rfl (raw_alloc hx _) (by simp) (by simpa using hl) ?_; intro v' w1 hg hgr hb)
  rw [List.nil_append] at hg
  have hb2 := (below_alloc w (.cells #[] 149)).trans hb
  go_wp2_with fail
  go_ret
  exact ⟨_, rfl, hg, hb2⟩

set_option maxRecDepth 100000 in
/-- N: the canonical digits, in memory of their own. -/
theorem n_is {A : Option Addr} {n c x : Nat} {ds : List Nat} {w : World} (hx : Raw w (.slice A n c) ds) (hvx : Hid (val ds = x)) :
    Calls Tryz.prog 53 #[.slice A n c] w fun e w' => ∃ B k d, e = .returned (.slice B k d) ∧ Num w' (.slice B k d) x ∧ Below w.heap.size w w' := by
  have hl := Raw.len hx
  go_enter Tryz.func53, Tryz.ntmps53
  go_wp2_with (at_builtin; refine wpList_append_digs rfl _ _ _ _ rfl Tryz.underlying44 Tryz.underlying59 w.heap.size rfl (grow_empty w) rfl (raw_alloc hx _) (by simp) (by simpa using hl) ?_; intro v' w1 hg hgr hb)
  rw [List.nil_append] at hg
  have hb2 := (below_alloc w (.cells #[] 149)).trans hb
  obtain ⟨A1, c1, rfl⟩ := hg.form
  have hr := hg.raw hl
  go_wp2_with fail
  refine (ntrim_is hr hvx).mono ?_
  rintro e w' ⟨rfl, hN, rfl⟩
  go_wp2_with fail
  go_ret
  exact ⟨_, _, _, rfl, hN, hb2⟩

end Go.Proofs.YthmmnmajkeoaaabGreatDoor
namespace Go.Proofs.YthmmnmajkeoaaabGreatDoor
open Go.RowKit

theorem mul_bound2 {p d : Nat} (hp : p < 4294967296) (hd : d < 4294967296) : p * d ≤ 18446744065119617025 := by
  have h1 : p * d ≤ 4294967295 * 4294967295 := Nat.mul_le_mul (by omega) (by omega)
  omega
theorem only_drewN' {a w : World} {row : Option Nat} (h : a.grownBy w row) (n : Nat) : a.grownBy (w.drewN n) row := ⟨h.os, h.tape, h.output, h.size, h.block⟩
theorem only_set {a w : World} {g : Nat} (h : a.grownBy w (some g)) (j : Nat) (u : Value) : a.grownBy (w.setCell ⟨g, j, none⟩ u) (some g) :=
  ⟨h.os, h.tape, h.output, by simpa [World.setCell] using h.size, fun i hi hne => (Below.heap_setCell w ⟨g, j, none⟩ u i (by rintro rfl; exact hne rfl)).trans (h.block i hi hne)⟩
theorem getD_of_drop {a b : List Nat} {i : Nat} (h : a.drop i = b.drop i) : a.getD i 0 = b.getD i 0 := by
  have := congrArg (fun l => l[0]?) h
  simp only [List.getElem?_drop, Nat.add_zero] at this
  rw [List.getD_eq_getElem?_getD, List.getD_eq_getElem?_getD, this]
theorem addmul_round {V b carry S D E d de dz : Nat} (h : V + b * carry = S + D * (d * E)) (t q : Nat) (hq : t = q % 4294967296) (hs : q = carry + (d * de + dz)) {bk : Nat} (hb : b = D * bk) :
    V + b * t + 4294967296 * b * (q / 4294967296) = S + b * dz + D * (d * (E + bk * de)) := by
  have e := Nat.mod_add_div q 4294967296
  generalize q / 4294967296 = z at *
  subst hq hb
  generalize q % 4294967296 = r at *
  grind

set_option maxRecDepth 100000 in
set_option maxHeartbeats 800000 in
theorem addmul_any {g o n c c' : Nat} {A' : Option Addr} {zs es : List Nat} {w : World} (d : Nat) (hd : d < 4294967296) (hz : Own w g zs) (hzd : OkD zs) (hzl : zs.length ≤ 1000000000)
    (hy : Raw w (.slice A' n c') es) (hne : 0 < es.length → ∀ ad, A' = some ad → ad.block ≠ g) (hon : o + n ≤ zs.length) (hc : n ≤ c) :
    Calls Tryz.prog 128 #[.slice (some ⟨g, o, none⟩) n c, .slice A' n c', .int .u32 (d : Int)] w fun e w' => ∃ (carry : Nat) (zs' : List Nat), e = .returned (.int .u32 (carry : Int)) ∧ carry < 4294967296 ∧ Own w' g zs' ∧ OkD zs' ∧ zs'.length = zs.length ∧ w.grownBy w' (some g) ∧
      zs'.take o = zs.take o ∧ zs'.drop (o + n) = zs.drop (o + n) ∧ val (zs'.take (o + n)) + Bs (o + n) * carry = val (zs.take (o + n)) + Bs o * (d * val es) := by
  obtain ⟨hn, hc'⟩ := hy.cap
  subst hn
  go_enter Tryz.func128, Tryz.ntmps128
  go_wp2_with fail
  go_loopw [7, 11] (fun cr i wr => ∃ (k carry : Nat) (zk : List Nat), i = .int .i64 k ∧ cr = .int .u64 carry ∧ k ≤ es.length ∧ carry < 4294967296 ∧ zk.length = zs.length ∧ OkD zk ∧ Own wr g zk ∧ w.grownBy wr (some g) ∧
      zk.take o = zs.take o ∧ zk.drop (o + k) = zs.drop (o + k) ∧ val (zk.take (o + k)) + Bs (o + k) * carry = val (zs.take (o + k)) + Bs o * (d * val (es.take k))) (fun _ i _ => es.length - (intOf i).toNat)
  case atStart => exact ⟨0, 0, zs, rfl, rfl, Nat.zero_le _, by omega, rfl, hzd, hz, World.grownBy.refl w _, rfl, rfl, by simp [val]⟩
  case round =>
    obtain ⟨k, carry, zk, rfl, rfl, hk, hcar, hzkl, hzkd, hzko, hgr, ht, hdr, hv⟩ := hrel
    have HV := Lib.hid hv
    have HT := Lib.hid ht
    have HDR := Lib.hid hdr
    have HZL := Lib.hid hzkl
    clear hv ht hdr hzkl
    rcases Nat.lt_or_ge k es.length with hlt | hge
    · obtain ⟨ad', hA', hb', hcy⟩ := (hy.keepBut hgr (fun h0 A n c hv ad hA => hne h0 ad (by injection hv with h1; rw [h1]; exact hA))).at_ (j := k) hlt
      subst hA'
      have hcz := hzko.cell (j := o + k) (by rw [HZL.out]; omega)
      have hfr := hzko.frozen (o + k)
      obtain ⟨dz, hdz⟩ : ∃ d, zk.getD (o + k) 0 = d := ⟨_, rfl⟩
      obtain ⟨dy, hdy⟩ : ∃ d, es.getD k 0 = d := ⟨_, rfl⟩
      have bz : dz < 4294967296 := by rw [← hdz]; exact okD_getD hzkd _
      have by_ : dy < 4294967296 := by rw [← hdy]; exact okD_getD hy.okD k
      rw [hdz] at hcz
      rw [hdy] at hcy
      have HDZ := Lib.hid hdz
      have HDY := Lib.hid hdy
      clear hdz hdy
      have m2 := mul_bound2 hd by_
      go_wp2_with fail
      go_quiet (fail)
      go_wp2_with fail
      go_roundw
      case rel =>
        obtain ⟨q, hq⟩ : ∃ q, q = carry + (d * dy + dz) := ⟨_, rfl⟩
        have eq : ((carry : Int) + ((d : Int) * (dy : Int) + (dz : Int))) = (q : Int) := by rw [hq]; simp
        rw [eq, show ((q : Int) % 4294967296) = ((q % 4294967296 : Nat) : Int) by omega, show ((q : Int) / 4294967296) = ((q / 4294967296 : Nat) : Int) by omega]
        have hgz : zs.getD (o + k) 0 = dz := by rw [← HDZ.out]; exact (getD_of_drop HDR.out).symm
        refine ⟨k + 1, _, _, by go_num, rfl, by omega, by omega, by rw [List.length_set]; exact HZL.out, okD_set hzkd _ (by omega), (hzko.drewN _).set (o + k) _, only_set (only_drewN' hgr _) _ _, ?_, ?_, ?_⟩
        · rw [List.take_set_of_le (by omega), HT.out]
        · rw [List.drop_set_of_lt (by omega), ← Nat.add_assoc, ← List.drop_drop, HDR.out, List.drop_drop]
        · rw [← Nat.add_assoc, val_take_set (by rw [HZL.out]; omega), val_take_succ', val_take_succ', HDY.out, hgz, Bs_succ]
          exact addmul_round HV.out _ q rfl hq (Bs_add o k)
      case measure => simp [intOf]; omega
    · obtain rfl : k = es.length := by omega
      go_wp2_with fail
      go_ret
      exact ⟨carry, zk, by simp, hcar, hzko, hzkd, HZL.out, hgr, HT.out, HDR.out, by rw [HV.out, val_take_all (Nat.le_refl _)]⟩
end Go.Proofs.YthmmnmajkeoaaabGreatDoor
namespace Go.Proofs.YthmmnmajkeoaaabGreatDoor
open Go.RowKit

theorem or_shift (r d : Nat) (hr : r < 4294967296) (hd : d < 4294967296) : bits .or .u64 ((r : Int) * 4294967296) (d : Int) = ((r * 4294967296 + d : Nat) : Int) := by
  have := u64_or_nat (r * 4294967296) d (by omega) (by omega)
  rw [Int.natCast_mul] at this
  rw [show ((4294967296 : Nat) : Int) = 4294967296 from rfl] at this
  rw [this]
  congr 1
  rw [show r * 4294967296 = r <<< 32 by rw [Nat.shiftLeft_eq], ← Nat.shiftLeft_add_eq_or_of_lt (by omega)]
theorem divd_round {V d rest E q r t dz : Nat} (h : V * d + rest = E) (ht : rest * 4294967296 + dz = t) (hq : t = q * d + r) : (q + 4294967296 * V) * d + r = dz + 4294967296 * E := by
  subst h
  have : rest * 4294967296 + dz = q * d + r := by omega
  grind

set_option maxRecDepth 100000 in
set_option maxHeartbeats 800000 in
theorem divd_any {g c d : Nat} {ds : List Nat} {w : World} (hd0 : 0 < d) (hd : d < 4294967296) (hz : Own w g ds) (hzd : OkD ds) (hzl : ds.length ≤ 1000000000) :
    Calls Tryz.prog 129 #[.slice (some ⟨g, 0, none⟩) ds.length c, .int .u32 (d : Int)] w fun e w' => ∃ qs : List Nat, e = .returned (.int .u32 ((val ds % d : Nat) : Int)) ∧ Own w' g qs ∧ OkD qs ∧ qs.length = ds.length ∧ w.grownBy w' (some g) ∧ val qs = val ds / d := by
  go_enter Tryz.func129, Tryz.ntmps129
  go_wp2_with fail
  go_loopw [5, 6] (fun rs i wr => ∃ (k rest : Nat) (zk : List Nat), i = .int .i64 ((k : Int) - 1) ∧ rs = .int .u64 rest ∧ k ≤ ds.length ∧ rest < d ∧ zk.length = ds.length ∧ OkD zk ∧ Own wr g zk ∧ w.grownBy wr (some g) ∧
      zk.take k = ds.take k ∧ val (zk.drop k) * d + rest = val (ds.drop k)) (fun _ i _ => (intOf i + 1).toNat)
  case atStart => exact ⟨ds.length, 0, ds, rfl, rfl, Nat.le_refl _, hd0, rfl, hzd, hz, World.grownBy.refl w _, rfl, by rw [List.drop_eq_nil_of_le (Nat.le_refl _)]; simp [val]⟩
  case round =>
    obtain ⟨k, rest, zk, rfl, rfl, hk, hrest, hzkl, hzkd, hzko, hgr, ht, hv⟩ := hrel
    have HV := Lib.hid hv
    have HT := Lib.hid ht
    have HZL := Lib.hid hzkl
    clear hv ht hzkl
    rcases Nat.eq_zero_or_pos k with rfl | hk0
    · have hv := HV.out
      rw [List.drop_zero, List.drop_zero] at hv
      have e1 : val ds % d = rest := by rw [← hv, Nat.mul_comm, Nat.mul_add_mod, Nat.mod_eq_of_lt hrest]
      have e2 : val zk = val ds / d := by rw [← hv, Nat.mul_comm, Nat.mul_add_div hd0, Nat.div_eq_of_lt hrest]; rfl
      have E1 := Lib.hid e1
      have E2 := Lib.hid e2
      clear hv e1 e2
      go_wp2_with fail
      go_ret
      exact ⟨zk, by rw [E1.out]; rfl, hzko, hzkd, HZL.out, hgr, E2.out⟩
    · obtain ⟨m, rfl⟩ : ∃ m, k = m + 1 := ⟨k - 1, by omega⟩
      have ei : ((m + 1 : Nat) : Int) - 1 = (m : Int) := by omega
      rw [ei]
      clear ei
      have hcz := hzko.cell (j := m) (by rw [HZL.out]; omega)
      have hfr := hzko.frozen m
      obtain ⟨dz, hdz⟩ : ∃ d, zk.getD m 0 = d := ⟨_, rfl⟩
      have bz : dz < 4294967296 := by rw [← hdz]; exact okD_getD hzkd _
      rw [hdz] at hcz
      have HDZ := Lib.hid hdz
      clear hdz
      have hor := or_shift rest dz (by omega) bz
      obtain ⟨t, ht⟩ : ∃ t, t = rest * 4294967296 + dz := ⟨_, rfl⟩
      have et : (rest : Int) * 4294967296 + (dz : Int) = (t : Int) := by rw [ht]; simp
      have htd : t < d * 4294967296 := by
        have : (rest + 1) * 4294967296 ≤ d * 4294967296 := Nat.mul_le_mul_right _ hrest
        omega
      have hq : t / d < 4294967296 := Nat.div_lt_of_lt_mul htd
      have HQ := Lib.hid hq
      have HET := Lib.hid et
      have HT' := Lib.hid ht
      clear ht et htd hq
      go_wp2_with fail
      go_roundw
      case rel =>
        have e1 : (t : Int) / (d : Int) % 4294967296 = ((t / d : Nat) : Int) := by
          have h := HQ.out
          rw [show (t : Int) / (d : Int) = ((t / d : Nat) : Int) by norm_cast]
          revert h
          generalize t / d = q
          intro h
          omega
        have e2 : (t : Int) % (d : Int) = ((t % d : Nat) : Int) := by norm_cast
        rw [HET.out, e1, e2]
        have hq := HQ.out
        have hml : m < zk.length := by rw [HZL.out]; omega
        refine ⟨m, _, _, rfl, rfl, by omega, Nat.mod_lt _ hd0, by rw [List.length_set]; exact HZL.out, okD_set hzkd m hq, hzko.set m _, only_set hgr _ _, ?_, ?_⟩
        · have h := congrArg (List.take m) HT.out
          rw [List.take_take, List.take_take, Nat.min_eq_left (by omega)] at h
          rw [List.take_set_of_le (Nat.le_refl _), h]
        · have h1 : (zk.set m (t / d)).drop m = (t / d) :: zk.drop (m + 1) := by
            rw [List.drop_eq_getElem_cons (by rw [List.length_set]; exact hml), List.getElem_set_self, List.drop_set_of_lt (by omega)]
          have h2 : ds.drop m = dz :: ds.drop (m + 1) := by
            rw [List.drop_eq_getElem_cons (by omega : m < ds.length)]
            have h3 := congrArg (fun l => l[m]?) HT.out
            simp only [List.getElem?_take] at h3
            rw [if_pos (by omega), if_pos (by omega), List.getElem?_eq_getElem hml, List.getElem?_eq_getElem (by omega : m < ds.length)] at h3
            have h4 := HDZ.out
            rw [List.getD_eq_getElem?_getD, List.getElem?_eq_getElem hml] at h4
            simp only [Option.getD_some] at h4
            rw [← Option.some.inj h3, h4]
          rw [h1, h2, val_cons, val_cons]
          exact divd_round HV.out HT'.out.symm (by rw [Nat.mul_comm]; exact (Nat.div_add_mod t d).symm)
      case measure => simp [intOf]
end Go.Proofs.YthmmnmajkeoaaabGreatDoor
