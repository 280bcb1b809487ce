/-
  What a slice of digits reads as in a world, and blocks of digits that a call owns.
-/
import Derived.Test.YtkhfadfjkmhpgaaDoorProg
import Derived.Test.YtkhfadfjkmhpgaaDoorMath
import Derived.Tactics
import Derived.Tactics2
import Derived.WalkKit
import Derived.IntWalk
import Derived.Deep.Draws
import Derived.Deep.QuietTactic
import Derived.BigQuiet
import Derived.Lib.Hide
import Derived.KernelRfl
namespace Go.Proofs.YtkhfadfjkmhpgaaDoor
open Go.RowKit

theorem and_mask {x : Int} (h0 : 0 ≤ x) (h : x < 18446744073709551616) : bits .and .u64 x 4294967295 = x % 4294967296 := by
  obtain ⟨n, rfl⟩ := Int.eq_ofNat_of_zero_le h0
  have := u64_and_nat n 4294967295 (by omega) (by omega)
  rw [show ((4294967295 : Nat) : Int) = 4294967295 from rfl] at this
  rw [this, show (4294967295 : Nat) = 2 ^ 32 - 1 from rfl, Nat.and_two_pow_sub_one_eq_mod]
  omega

/-- A digit as a value. -/
def dv (d : Nat) : Value := .int .u32 (d : Int)

theorem addr_add_block (a : Addr) (n : Nat) : (a.add n).block = a.block := by unfold Addr.add; split <;> rfl
theorem addr_add_add (a : Addr) (i j : Nat) : (a.add i).add j = a.add (i + j) := by
  unfold Addr.add
  by_cases hi : i = 0 <;> by_cases hj : j = 0 <;> simp [hi, hj, Nat.add_assoc]
theorem addr_add_lit (g o j : Nat) : (⟨g, o, none⟩ : Addr).add j = ⟨g, o + j, none⟩ := by
  unfold Addr.add; by_cases hj : j = 0 <;> simp [hj]

/-- The slice value v reads as the digits ds (zeros at the end are allowed), in a block that is there. -/
def Raw (w : World) (v : Value) (ds : List Nat) : Prop :=
  OkD ds ∧ ds.length ≤ 1000000000 ∧ ∃ (A : Option Addr) (c : Nat), v = .slice A ds.length c ∧ ds.length ≤ c ∧
    ∀ j, j < ds.length → ∃ ad, A = some ad ∧ ad.block < w.heap.size ∧ w.cell? (ad.add j) = some (.int .u32 (ds.getD j 0 : Nat))

/-- The slice value v reads as the canonical digits of x. -/
def Num (w : World) (v : Value) (x : Nat) : Prop := Raw w v (digs x)

section
variable {w w' : World} {v : Value} {ds : List Nat}
theorem Raw.okD (h : Raw w v ds) : OkD ds := h.1
theorem Raw.len (h : Raw w v ds) : ds.length ≤ 1000000000 := h.2.1
theorem Raw.form (h : Raw w v ds) : ∃ A c, v = .slice A ds.length c ∧ ds.length ≤ c := by
  obtain ⟨_, _, A, c, e, hc, _⟩ := h; exact ⟨A, c, e, hc⟩
theorem Raw.cap {A : Option Addr} {n c : Nat} (h : Raw w (.slice A n c) ds) : n = ds.length ∧ n ≤ c := by
  obtain ⟨_, _, A', c', e, hc, _⟩ := h
  injection e with _ h2 h3
  subst h3; exact ⟨h2, by omega⟩
theorem Raw.at_ {A : Option Addr} {n c : Nat} (h : Raw w (.slice A n c) ds) {j : Nat} (hj : j < ds.length) :
    ∃ ad, A = some ad ∧ ad.block < w.heap.size ∧ w.cell? (ad.add j) = some (.int .u32 (ds.getD j 0 : Nat)) := by
  obtain ⟨_, _, A', c', e, _, hcell⟩ := h
  injection e with h1
  subst h1; exact hcell j hj
theorem Raw.block {A : Option Addr} {n c : Nat} (h : Raw w (.slice A n c) ds) (hl : 0 < ds.length) (ad : Addr) (hA : A = some ad) : ad.block < w.heap.size := by
  obtain ⟨ad', e, hb, _⟩ := h.at_ hl
  rw [e] at hA
  injection hA with hA
  rw [← hA]; exact hb
theorem Raw.keep (h : Raw w v ds) (hs : w.heap.size ≤ w'.heap.size) (hk : ∀ p : Addr, p.block < w.heap.size → w'.cell? p = w.cell? p) : Raw w' v ds := by
  obtain ⟨h1, h2, A, c, e, hc, hcell⟩ := h
  refine ⟨h1, h2, A, c, e, hc, fun j hj => ?_⟩
  obtain ⟨ad, e1, e2, e3⟩ := hcell j hj
  exact ⟨ad, e1, by omega, (hk _ (by rw [addr_add_block]; exact e2)).trans e3⟩
theorem Raw.below (h : Raw w v ds) (hb : Below w.heap.size w w') : Raw w' v ds := h.keep hb.size fun _ hp => hb.cell hp
/-- A store into another block, or a call that changes another block alone, keeps it. -/
theorem Raw.keepBut (h : Raw w v ds) {g : Nat} (hg : w.grownBy w' (some g)) (hne : 0 < ds.length → ∀ A n c, v = .slice A n c → ∀ ad, A = some ad → ad.block ≠ g) : Raw w' v ds := by
  obtain ⟨h1, h2, A, c, e, hc, hcell⟩ := h
  refine ⟨h1, h2, A, c, e, hc, fun j hj => ?_⟩
  obtain ⟨ad, e1, e2, e3⟩ := hcell j hj
  refine ⟨ad, e1, Nat.lt_of_lt_of_le e2 hg.size, ?_⟩
  refine (World.cell?_of_block (hg.block _ (by rw [addr_add_block]; exact e2) ?_)).trans e3
  rw [addr_add_block]
  intro he
  exact hne (by omega) _ _ _ e ad e1 (by injection he)
theorem Raw.drew (h : Raw w v ds) : Raw w.drew v ds := h
theorem Raw.drewN (h : Raw w v ds) (k : Nat) : Raw (w.drewN k) v ds := h
theorem Num.below {x : Nat} (h : Num w v x) (hb : Below w.heap.size w w') : Num w' v x := Raw.below h hb
theorem Num.form {x : Nat} (h : Num w v x) : ∃ A c, v = .slice A (digs x).length c ∧ (digs x).length ≤ c := Raw.form h
theorem raw_nil (A : Option Addr) (c : Nat) : Raw w (.slice A 0 c) [] :=
  ⟨okD_nil, by simp, A, c, rfl, Nat.zero_le _, fun j hj => by simp at hj⟩
theorem num_zero (A : Option Addr) (c : Nat) : Num w (.slice A 0 c) 0 := by unfold Num; rw [digs_zero]; exact raw_nil A c
/-- A cut in front. -/
theorem Raw.take {A : Option Addr} {n c : Nat} (h : Raw w (.slice A n c) ds) {k : Nat} (hk : k ≤ ds.length) : Raw w (.slice A k c) (ds.take k) := by
  have hc := h.cap
  refine ⟨okD_take h.okD k, by rw [List.length_take]; have := h.len; omega, A, c, by rw [List.length_take, Nat.min_eq_left hk], by rw [List.length_take]; omega, fun j hj => ?_⟩
  rw [List.length_take] at hj
  obtain ⟨ad, e1, e2, e3⟩ := h.at_ (j := j) (by omega)
  refine ⟨ad, e1, e2, e3.trans ?_⟩
  rw [List.getD_eq_getElem?_getD, List.getD_eq_getElem?_getD, List.getElem?_take, if_pos (by omega)]
/-- A cut behind. -/
theorem Raw.drop {A : Option Addr} {n c : Nat} (h : Raw w (.slice A n c) ds) {k : Nat} (hk : k ≤ ds.length) : Raw w (.slice (if c = k then A else A.map (·.add k)) (n - k) (c - k)) (ds.drop k) := by
  have hc := h.cap
  refine ⟨okD_drop h.okD k, by rw [List.length_drop]; have := h.len; omega, _, _, by rw [List.length_drop, hc.1], by rw [List.length_drop]; omega, fun j hj => ?_⟩
  rw [List.length_drop] at hj
  obtain ⟨ad, e1, e2, e3⟩ := h.at_ (j := k + j) (by omega)
  rw [if_neg (by omega)]
  refine ⟨ad.add k, by rw [e1]; rfl, by rw [addr_add_block]; exact e2, ?_⟩
  rw [addr_add_add, e3, List.getD_eq_getElem?_getD, List.getD_eq_getElem?_getD, List.getElem?_drop]
theorem Raw.num_of_nrm (h : Raw w v ds) (hn : Nrm ds) : Num w v (val ds) := by unfold Num; rw [digs_val h.okD hn]; exact h
end

/-- Block g begins with the digits ds, and may be written. -/
def Own (w : World) (g : Nat) (ds : List Nat) : Prop := ∃ extra : List Value, w.heap[g]? = some (.cells (ds.map dv ++ extra).toArray 68 (0, 0))

section
variable {w w' : World} {g : Nat} {ds : List Nat}
theorem Own.lt (h : Own w g ds) : g < w.heap.size := by
  obtain ⟨ex, h⟩ := h
  rcases Nat.lt_or_ge g w.heap.size with hlt | hge
  · exact hlt
  · rw [Array.getElem?_eq_none hge] at h; cases h
theorem Own.cell (h : Own w g ds) {j : Nat} (hj : j < ds.length) : w.cell? ⟨g, j, none⟩ = some (.int .u32 (ds.getD j 0 : Nat)) := by
  obtain ⟨ex, h⟩ := h
  rw [cell_of_row w g j _ _ _ h]
  rw [List.getElem?_toArray, List.getElem?_append_left (by simpa using hj)]
  simp [List.getElem?_eq_getElem hj, dv]
theorem Own.frozen (h : Own w g ds) (j : Nat) : w.frozen? ⟨g, j, none⟩ = false := by
  obtain ⟨ex, h⟩ := h
  exact frozen_of_row w g j _ _ h
theorem Own.set (h : Own w g ds) (j d : Nat) : Own (w.setCell ⟨g, j, none⟩ (.int .u32 (d : Int))) g (ds.set j d) := by
  obtain ⟨ex, h⟩ := h
  have := heap_setCell_same w g j _ _ (.int .u32 (d : Int)) h
  rcases Nat.lt_or_ge j ds.length with hj | hj
  · refine ⟨ex, ?_⟩
    rw [this]
    simp [List.map_set, dv, hj]
  · refine ⟨ex.set (j - ds.length) (.int .u32 (d : Int)), ?_⟩
    rw [this, List.set_eq_of_length_le hj]
    simp [List.set_append, Nat.not_lt.2 hj]
theorem Own.block {g' : Nat} (h : Own w g ds) (e : w'.heap[g']? = w.heap[g]?) : Own w' g' ds := by
  obtain ⟨ex, h⟩ := h; exact ⟨ex, e.trans h⟩
theorem Own.far (h : Own w g ds) {p : Addr} (hp : g ≠ p.block) (u : Value) : Own (w.setCell p u) g ds := h.block (heap_setCell_other w p g u hp)
theorem Own.alloc (h : Own w g ds) (o : Obj) : Own (w.alloc o) g ds := h.block (Below.heap_alloc w o g h.lt)
theorem Own.below {B : Nat} (h : Own w g ds) (hb : Below B w w') (hg : g < B) : Own w' g ds := h.block (hb.block g hg)
theorem Own.grown {row : Option Nat} (h : Own w g ds) (hb : w.grownBy w' row) (hg : some g ≠ row) : Own w' g ds := h.block (hb.block g h.lt hg)
theorem Own.drew (h : Own w g ds) : Own w.drew g ds := h
theorem Own.drewN (h : Own w g ds) (k : Nat) : Own (w.drewN k) g ds := h
theorem Own.pre (h : Own w g ds) (k : Nat) : Own w g (ds.take k) := by
  obtain ⟨ex, h⟩ := h
  refine ⟨(ds.drop k).map dv ++ ex, ?_⟩
  rw [h, ← List.append_assoc, ← List.map_append, List.take_append_drop]
/-- A slice over a part of the block. -/
theorem Own.raw (h : Own w g ds) (hd : OkD ds) (hl : ds.length ≤ 1000000000) (o n c : Nat) (hn : o + n ≤ ds.length) (hc : n ≤ c) :
    Raw w (.slice (some ⟨g, o, none⟩) n c) ((ds.drop o).take n) := by
  have hlen : ((ds.drop o).take n).length = n := by rw [List.length_take, List.length_drop]; omega
  refine ⟨okD_take (okD_drop hd o) n, by omega, some ⟨g, o, none⟩, c, by rw [hlen], by omega, fun j hj => ⟨_, rfl, h.lt, ?_⟩⟩
  rw [hlen] at hj
  rw [addr_add_lit, h.cell (by omega), List.getD_eq_getElem?_getD, List.getD_eq_getElem?_getD, List.getElem?_take, if_pos hj, List.getElem?_drop]
theorem Own.raw_all (h : Own w g ds) (hd : OkD ds) (hl : ds.length ≤ 1000000000) (n c : Nat) (hn : n = ds.length) (hc : n ≤ c) : Raw w (.slice (some ⟨g, 0, none⟩) n c) ds := by
  have := h.raw hd hl 0 n c (by omega) hc
  rwa [List.drop_zero, List.take_of_length_le (by omega)] at this
end

theorem Tryd.info_u32 : (Tryd.prog.info? 68).map (fun i => (i.zero, i.size, i.bytes)) = some (some (.int .u32 0), 1, 4) := by kernel_rfl

/-- make of n digits: a new block of zeros. T: the slice type's number. -/
theorem make_row {T : TypeId} (hT : Tryd.prog.underlying T = some (.slice 68)) (n : Nat) (hn : n ≤ 1000000000) (w : World) :
    ∃ w', (Instr.makeSlice T (.int .i64 (n : Int)) (.int .i64 (n : Int))).run Tryd.prog w = .ok (.slice (some ⟨w.heap.size, 0, none⟩) n n) w' ∧ Own w' w.heap.size (List.replicate n 0) ∧ Below w.heap.size w w' ∧ w'.heap.size = w.heap.size + 1 := by
  obtain ⟨i, hi, hz, hs, hby⟩ := info_parts Tryd.info_u32
  have hr := run_make (P := Tryd.prog) w T 68 i (.int .u32 0) hT hi hz .i64 .i64 n n (by omega) (Int.le_refl _) (by rw [hby]; omega) (by omega)
  simp only [Int.toNat_natCast] at hr
  refine ⟨_, hr, ?_, (Below.refl _ _).alloc (Nat.le_refl _) _, by simp⟩
  refine ⟨[], ?_⟩
  rw [heap_alloc_new, List.append_nil]
  rw [show (madeCells (Value.int .u32 0).cells (n * i.size)) = ((List.replicate n 0).map dv).toArray from ?_]
  apply Array.toList_inj.1
  rw [hs, Nat.mul_one]
  show (madeCells #[Value.int .u32 0] n).toList = _
  rw [toList_madeCells_one]
  simp [dv]
end Go.Proofs.YtkhfadfjkmhpgaaDoor
