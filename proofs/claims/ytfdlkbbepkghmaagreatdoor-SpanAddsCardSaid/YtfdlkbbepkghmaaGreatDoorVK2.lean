/-
  Bytes, Dec, Tape, TapeNat, Format in one text.
-/
import Derived.Test.YtfdlkbbepkghmaaGreatDoorVK1
import Derived.Laws.IdiomStrings
namespace Go.Proofs.YtfdlkbbepkghmaaGreatDoor
open Go.RowKit

/-- Every byte. -/
def OkB (ds : List Nat) : Prop := ∀ d ∈ ds, d < 256
/-- A byte as a value. -/
def bv (d : Nat) : Value := .int .u8 (d : Int)

/-- The slice value v reads as the digits ds (zeros at the end are allowed), in a block that is there. -/
def RawB (w : World) (v : Value) (ds : List Nat) : Prop :=
  OkB ds ∧ ds.length ≤ 1000000000 ∧ ∃ (A : Option Addr) (c : Nat), v = .slice A ds.length c ∧ ds.length ≤ c ∧
    ∀ j, j < ds.length → ∃ ad, A = some ad ∧ ad.block < w.heap.size ∧ w.cell? (ad.add j) = some (.int .u8 (ds.getD j 0 : Nat))

section
variable {w w' : World} {v : Value} {ds : List Nat}
theorem RawB.len (h : RawB w v ds) : ds.length ≤ 1000000000 := h.2.1
theorem RawB.form (h : RawB w v ds) : ∃ A c, v = .slice A ds.length c ∧ ds.length ≤ c := by
  obtain ⟨_, _, A, c, e, hc, _⟩ := h; exact ⟨A, c, e, hc⟩
theorem RawB.cap {A : Option Addr} {n c : Nat} (h : RawB w (.slice A n c) ds) : n = ds.length ∧ n ≤ c := by
  obtain ⟨_, _, A', c', e, hc, _⟩ := h
  injection e with _ h2 h3
  subst h3; exact ⟨h2, by omega⟩
theorem RawB.at_ {A : Option Addr} {n c : Nat} (h : RawB w (.slice A n c) ds) {j : Nat} (hj : j < ds.length) :
    ∃ ad, A = some ad ∧ ad.block < w.heap.size ∧ w.cell? (ad.add j) = some (.int .u8 (ds.getD j 0 : Nat)) := by
  obtain ⟨_, _, A', c', e, _, hcell⟩ := h
  injection e with h1
  subst h1; exact hcell j hj
theorem RawB.block {A : Option Addr} {n c : Nat} (h : RawB w (.slice A n c) ds) (hl : 0 < ds.length) (ad : Addr) (hA : A = some ad) : ad.block < w.heap.size := by
  obtain ⟨ad', e, hb, _⟩ := h.at_ hl
  rw [e] at hA
  injection hA with hA
  rw [← hA]; exact hb
theorem RawB.keep (h : RawB w v ds) (hs : w.heap.size ≤ w'.heap.size) (hk : ∀ p : Addr, p.block < w.heap.size → w'.cell? p = w.cell? p) : RawB w' v ds := by
  obtain ⟨h1, h2, A, c, e, hc, hcell⟩ := h
  refine ⟨h1, h2, A, c, e, hc, fun j hj => ?_⟩
  obtain ⟨ad, e1, e2, e3⟩ := hcell j hj
  exact ⟨ad, e1, by omega, (hk _ (by rw [addr_add_block]; exact e2)).trans e3⟩
theorem RawB.below (h : RawB w v ds) (hb : Below w.heap.size w w') : RawB w' v ds := h.keep hb.size fun _ hp => hb.cell hp
/-- A store into another block, or a call that changes another block alone, keeps it. -/
theorem RawB.keepBut (h : RawB w v ds) {g : Nat} (hg : w.grownBy w' (some g)) (hne : 0 < ds.length → ∀ A n c, v = .slice A n c → ∀ ad, A = some ad → ad.block ≠ g) : RawB w' v ds := by
  obtain ⟨h1, h2, A, c, e, hc, hcell⟩ := h
  refine ⟨h1, h2, A, c, e, hc, fun j hj => ?_⟩
  obtain ⟨ad, e1, e2, e3⟩ := hcell j hj
  refine ⟨ad, e1, Nat.lt_of_lt_of_le e2 hg.size, ?_⟩
  refine (World.cell?_of_block (hg.block _ (by rw [addr_add_block]; exact e2) ?_)).trans e3
  rw [addr_add_block]
  intro he
  exact hne (by omega) _ _ _ e ad e1 (by injection he)
theorem RawB.drew (h : RawB w v ds) : RawB w.drew v ds := h
theorem RawB.drewN (h : RawB w v ds) (k : Nat) : RawB (w.drewN k) v ds := h
end

/-- Block g begins with the digits ds, and may be written. -/
def OwnB (w : World) (g : Nat) (ds : List Nat) : Prop := ∃ extra : List Value, w.heap[g]? = some (.cells (ds.map bv ++ extra).toArray 5 (0, 0))

section
variable {w w' : World} {g : Nat} {ds : List Nat}
theorem OwnB.lt (h : OwnB w g ds) : g < w.heap.size := by
  obtain ⟨ex, h⟩ := h
  rcases Nat.lt_or_ge g w.heap.size with hlt | hge
  · exact hlt
  · rw [Array.getElem?_eq_none hge] at h; cases h
theorem OwnB.cell (h : OwnB w g ds) {j : Nat} (hj : j < ds.length) : w.cell? ⟨g, j, none⟩ = some (.int .u8 (ds.getD j 0 : Nat)) := by
  obtain ⟨ex, h⟩ := h
  rw [cell_of_row w g j _ _ _ h]
  rw [List.getElem?_toArray, List.getElem?_append_left (by simpa using hj)]
  simp [List.getElem?_eq_getElem hj, bv]
theorem OwnB.frozen (h : OwnB w g ds) (j : Nat) : w.frozen? ⟨g, j, none⟩ = false := by
  obtain ⟨ex, h⟩ := h
  exact frozen_of_row w g j _ _ h
theorem OwnB.set (h : OwnB w g ds) (j d : Nat) : OwnB (w.setCell ⟨g, j, none⟩ (.int .u8 (d : Int))) g (ds.set j d) := by
  obtain ⟨ex, h⟩ := h
  have := heap_setCell_same w g j _ _ (.int .u8 (d : Int)) h
  rcases Nat.lt_or_ge j ds.length with hj | hj
  · refine ⟨ex, ?_⟩
    rw [this]
    simp [List.map_set, bv, hj]
  · refine ⟨ex.set (j - ds.length) (.int .u8 (d : Int)), ?_⟩
    rw [this, List.set_eq_of_length_le hj]
    simp [List.set_append, Nat.not_lt.2 hj]
theorem OwnB.block {g' : Nat} (h : OwnB w g ds) (e : w'.heap[g']? = w.heap[g]?) : OwnB w' g' ds := by
  obtain ⟨ex, h⟩ := h; exact ⟨ex, e.trans h⟩
theorem OwnB.far (h : OwnB w g ds) {p : Addr} (hp : g ≠ p.block) (u : Value) : OwnB (w.setCell p u) g ds := h.block (heap_setCell_other w p g u hp)
theorem OwnB.alloc (h : OwnB w g ds) (o : Obj) : OwnB (w.alloc o) g ds := h.block (Below.heap_alloc w o g h.lt)
theorem OwnB.below {B : Nat} (h : OwnB w g ds) (hb : Below B w w') (hg : g < B) : OwnB w' g ds := h.block (hb.block g hg)
theorem OwnB.grown {row : Option Nat} (h : OwnB w g ds) (hb : w.grownBy w' row) (hg : some g ≠ row) : OwnB w' g ds := h.block (hb.block g h.lt hg)
theorem OwnB.drew (h : OwnB w g ds) : OwnB w.drew g ds := h
theorem OwnB.drewN (h : OwnB w g ds) (k : Nat) : OwnB (w.drewN k) g ds := h
theorem OwnB.pre (h : OwnB w g ds) (k : Nat) : OwnB w g (ds.take k) := by
  obtain ⟨ex, h⟩ := h
  refine ⟨(ds.drop k).map bv ++ ex, ?_⟩
  rw [h, ← List.append_assoc, ← List.map_append, List.take_append_drop]
end

/-- v is the call's own: nil, or the head of a block from B on. -/
def GrowB (w : World) (B : Nat) (v : Value) (ds : List Nat) : Prop := OkB ds ∧ w.ownsRow B 5 1 v ds.length (ds.map bv)

section
variable {w w' : World} {B : Nat} {v : Value} {ds : List Nat}
theorem GrowB.own (h : GrowB w B v ds) (hn : ds ≠ []) : ∃ g cap, v = .slice (some ⟨g, 0, none⟩) ds.length cap ∧ B ≤ g ∧ OwnB w g ds ∧ ds.length ≤ cap := by
  obtain ⟨_, _, h⟩ := h
  rcases h with ⟨_, h0⟩ | ⟨g, cap, cur, hv, hB, hh, hnc, _, hsz, ht⟩
  · exact absurd (List.eq_nil_of_length_eq_zero h0) hn
  · refine ⟨g, cap, hv, hB, ⟨cur.toList.drop ds.length, ?_⟩, hnc⟩
    rw [Nat.mul_one] at ht
    rw [hh, ← ht, List.take_append_drop]
theorem GrowB.form (h : GrowB w B v ds) : ∃ A cap, v = .slice A ds.length cap := by
  obtain ⟨_, _, h⟩ := h
  rcases h with ⟨rfl, h0⟩ | ⟨g, cap, cur, rfl, _⟩
  · exact ⟨none, 0, by rw [h0]⟩
  · exact ⟨_, _, rfl⟩
theorem GrowB.below {B' : Nat} (h : GrowB w B v ds) (hb : Below B' w w') (hB : ∀ A n c, v = .slice A n c → ∀ ad, A = some ad → ad.block < B') : GrowB w' B v ds := by
  obtain ⟨hd, h1, h2⟩ := h
  refine ⟨hd, h1, ?_⟩
  rcases h2 with h2 | ⟨g, cap, cur, hv, hg, hh, h3⟩
  · exact .inl h2
  · exact .inr ⟨g, cap, cur, hv, hg, (hb.block g (hB _ _ _ hv _ rfl)).trans hh, h3⟩
theorem GrowB.lt (h : GrowB w B v ds) : ∀ A n c, v = .slice A n c → ∀ ad, A = some ad → ad.block < w.heap.size := by
  rintro A n c rfl ad rfl
  obtain ⟨_, _, h⟩ := h
  rcases h with ⟨h, _⟩ | ⟨g, cap, cur, hv, hg, hh, _⟩
  · injection h with h; cases h
  · injection hv with hv
    injection hv with hv
    subst hv
    show g < _
    rcases Nat.lt_or_ge g w.heap.size with hlt | hge
    · exact hlt
    · rw [Array.getElem?_eq_none hge] at hh; cases hh
/-- Whatever lies above what is there keeps it. -/
theorem GrowB.keep (h : GrowB w B v ds) (hb : Below w.heap.size w w') : GrowB w' B v ds := h.below hb h.lt
theorem GrowB.drewN (h : GrowB w B v ds) (k : Nat) : GrowB (w.drewN k) B v ds := h
theorem GrowB.drew (h : GrowB w B v ds) : GrowB w.drew B v ds := h
end

end Go.Proofs.YtfdlkbbepkghmaaGreatDoor
namespace Go.Proofs.YtfdlkbbepkghmaaGreatDoor

end Go.Proofs.YtfdlkbbepkghmaaGreatDoor
namespace Go.Proofs.YtfdlkbbepkghmaaGreatDoor
open Go.RowKit

theorem ret_i64 {a b : Int} (h : a = b) : Ending.returned (.int .i64 a) = .returned (.int .i64 b) := by rw [h]

/-- Block b is a tape over ints that lie in other blocks. -/
def Tape (w : World) (b : Nat) : Prop := ∃ (A : Option Addr) (n c t : Nat), w.heap[b]? = some (.cells #[.slice A n c, .int .i64 (t : Int)] 105 (0, 0)) ∧ n ≤ 400 ∧ n ≤ c ∧ t ≤ 1000 ∧
  ∀ j, j < n → ∃ ad z, A = some ad ∧ ad.block < b ∧ w.cell? (ad.add j) = some (.int .i64 z)

theorem Tape.keep {w w' : World} {b B : Nat} (h : Tape w b) (hb : Below B w w') (hB : b < B) : Tape w' b := by
  obtain ⟨A, n, c, t, h1, h2, h3, h4, h5⟩ := h
  refine ⟨A, n, c, t, (hb.block b hB).trans h1, h2, h3, h4, fun j hj => ?_⟩
  obtain ⟨ad, z, e1, e2, e4⟩ := h5 j hj
  exact ⟨ad, z, e1, e2, (hb.cell (by rw [addr_add_block]; omega)).trans e4⟩

theorem tape_step {w : World} {b : Nat} {A : Option Addr} {n c t : Nat} (h1 : w.heap[b]? = some (.cells #[.slice A n c, .int .i64 (t : Int)] 105 (0, 0))) (h2 : n ≤ 400) (h3 : n ≤ c) (ht : t < n)
    (h5 : ∀ j, j < n → ∃ ad z, A = some ad ∧ ad.block < b ∧ w.cell? (ad.add j) = some (.int .i64 z)) : Tape (w.setCell ⟨b, 1, none⟩ (.int .i64 ((t : Int) + 1))) b := by
  refine ⟨A, n, c, t + 1, ?_, h2, h3, by omega, fun j hj => ?_⟩
  · rw [heap_setCell_same w b 1 _ _ _ h1]; simp
  · obtain ⟨ad, z, e1, e2, e4⟩ := h5 j hj
    refine ⟨ad, z, e1, e2, ?_⟩
    rw [World.cell?_of_block (Below.heap_setCell w _ _ _ (by rw [addr_add_block]; exact Nat.ne_of_lt e2))]
    exact e4
theorem only_setCell1 {w : World} (b : Nat) (u : Value) (j : Nat) : w.grownBy ((w.drewN j).setCell ⟨b, 1, none⟩ u) (some b) :=
  ⟨rfl, rfl, rfl, by simp [World.setCell], fun i _ hne => Below.heap_setCell (w.drewN j) ⟨b, 1, none⟩ u i (by rintro rfl; exact hne rfl)⟩

set_option maxRecDepth 100000 in
set_option maxHeartbeats 400000 in
theorem next_any {b : Nat} {w : World} (m : Nat) (hm : 0 < m) (hm2 : m ≤ 1000000) (h : Tape w b) :
    Calls Tryz.prog 35 #[.pointer (some ⟨b, 0, none⟩), .int .i64 (m : Int)] w fun e w' => ∃ r : Nat, e = .returned (.int .i64 (r : Int)) ∧ r < m ∧ Tape w' b ∧ w.grownBy w' (some b) := by
  obtain ⟨A, n, c, t, hblk, hn, hc, ht, hcells⟩ := h
  have c0 : w.cell? ⟨b, 0, none⟩ = some (.slice A n c) := cell_of_row w b 0 _ _ _ hblk
  have c1 : w.cell? ⟨b, 1, none⟩ = some (.int .i64 (t : Int)) := cell_of_row w b 1 _ _ _ hblk
  have f1 : w.frozen? ⟨b, 1, none⟩ = false := frozen_of_row w b 1 _ _ hblk
  rcases Nat.lt_or_ge t n with hlt | hge
  · obtain ⟨ad, z, hA, hb, hcz⟩ := hcells t hlt
    subst hA
    have hst := tape_step hblk hn hc hlt hcells
    have HB := Lib.hid hblk
    have HC := Lib.hid hcells
    clear hblk hcells
    have hz1 : z.tmod (m : Int) < (m : Int) := Int.tmod_lt_of_pos z (by omega)
    have hz2 : -(m : Int) < z.tmod (m : Int) := Int.lt_tmod_of_pos z (by omega)
    by_cases hneg : z.tmod (m : Int) < 0
    · go_enter Tryz.func35, Tryz.ntmps35
      go_wp2_with fail
      go_quiet (fail)
      go_wp2_with fail
      go_quiet (fail)
      go_wp2_with fail
      go_ret
      exact ⟨(z.tmod (m : Int) + (m : Int)).toNat, ret_i64 (by omega), by omega, hst, only_setCell1 b _ _⟩
    · go_enter Tryz.func35, Tryz.ntmps35
      go_wp2_with fail
      go_quiet (fail)
      go_wp2_with fail
      go_quiet (fail)
      go_wp2_with fail
      go_ret
      exact ⟨(z.tmod (m : Int)).toNat, ret_i64 (by omega), by omega, hst, only_setCell1 b _ _⟩
  · have HB := Lib.hid hblk
    have HC := Lib.hid hcells
    clear hblk hcells
    go_enter Tryz.func35, Tryz.ntmps35
    go_wp2_with fail
    go_quiet (fail)
    go_wp2_with fail
    go_ret
    exact ⟨0, rfl, hm, ⟨A, n, c, t, HB.out, hn, hc, ht, HC.out⟩, ⟨rfl, rfl, rfl, Nat.le_refl _, fun _ _ _ => rfl⟩⟩
end Go.Proofs.YtfdlkbbepkghmaaGreatDoor
namespace Go.Proofs.YtfdlkbbepkghmaaGreatDoor
open Go.RowKit

theorem Grow.other {w w' : World} {B b : Nat} {v : Value} {ds : List Nat} (h : Grow w B v ds) (hg : w.grownBy w' (some b)) (hb : b < B) : Grow w' B v ds := by
  obtain ⟨hd, h1, h2⟩ := h
  refine ⟨hd, h1, ?_⟩
  rcases h2 with h2 | ⟨g, cap, cur, hv, hgB, hh, h3⟩
  · exact .inl h2
  · refine .inr ⟨g, cap, cur, hv, hgB, (hg.block g ?_ (by intro e; injection e with e; omega)).trans hh, h3⟩
    rcases Nat.lt_or_ge g w.heap.size with hlt | hge
    · exact hlt
    · rw [Array.getElem?_eq_none hge] at hh; cases hh
theorem only_trans {a b c : World} {g : Option Nat} (h : a.grownBy b g) (k : b.grownBy c g) : a.grownBy c g :=
  ⟨k.os.trans h.os, k.tape.trans h.tape, k.output.trans h.output, Nat.le_trans h.size k.size, fun i hi hne => (k.block i (Nat.lt_of_lt_of_le hi h.size) hne).trans (h.block i hi hne)⟩
theorem only_below {a b c : World} {g : Option Nat} {B : Nat} (h : a.grownBy b g) (k : Below B b c) (hB : a.heap.size ≤ B) : a.grownBy c g :=
  ⟨k.os.trans h.os, k.tape.trans h.tape, k.output.trans h.output, Nat.le_trans h.size k.size, fun i hi hne => (k.block i (Nat.lt_of_lt_of_le hi hB)).trans (h.block i hi hne)⟩
/-- The slice of ints that a law is called with. -/
def Ints (w : World) (v : Value) : Prop := ∃ (A : Option Addr) (n c : Nat), v = .slice A n c ∧ n ≤ c ∧ n ≤ 9223372036854775807 ∧ ∀ j, j < n → ∃ ad z, A = some ad ∧ ad.block < w.heap.size ∧ w.cell? (ad.add j) = some (.int .i64 z)

set_option maxRecDepth 100000 in
theorem new_any {v : Value} {w : World} (h : Ints w v) :
    Calls Tryz.prog 21 #[v] w fun e w' => e = .returned (.pointer (some ⟨w.heap.size, 0, none⟩)) ∧ Tape w' w.heap.size ∧ Below w.heap.size w w' ∧ w'.heap.size = w.heap.size + 1 := by
  obtain ⟨A, n, c, rfl, hn, hc, hcell⟩ := h
  have HC := Lib.hid hcell
  clear hcell
  by_cases h4 : n ≤ 400
  · go_enter Tryz.func21, Tryz.ntmps21
    go_wp2_with fail
    go_ret
    refine ⟨rfl, ⟨A, n, c, 0, heap_alloc_new w _, h4, hn, by omega, fun j hj => ?_⟩, below_alloc w _, by simp⟩
    obtain ⟨ad, z, e1, e2, e3⟩ := HC.out j hj
    exact ⟨ad, z, e1, e2, (World.cell?_alloc_lt w _ _ (by rw [addr_add_block]; exact e2)).trans e3⟩
  · go_enter Tryz.func21, Tryz.ntmps21
    go_wp2_with fail
    go_ret
    refine ⟨rfl, ⟨A, 400, c, 0, heap_alloc_new w _, by omega, by omega, by omega, fun j hj => ?_⟩, below_alloc w _, by simp⟩
    obtain ⟨ad, z, e1, e2, e3⟩ := HC.out j (by omega)
    exact ⟨ad, z, e1, e2, (World.cell?_alloc_lt w _ _ (by rw [addr_add_block]; exact e2)).trans e3⟩

end Go.Proofs.YtfdlkbbepkghmaaGreatDoor
namespace Go.Proofs.YtfdlkbbepkghmaaGreatDoor
open Go.RowKit

theorem GrowB.other {w w' : World} {B b : Nat} {v : Value} {ds : List Nat} (h : GrowB w B v ds) (hg : w.grownBy w' (some b)) (hb : b < B) : GrowB w' B v ds := by
  obtain ⟨hd, h1, h2⟩ := h
  refine ⟨hd, h1, ?_⟩
  rcases h2 with h2 | ⟨g, cap, cur, hv, hgB, hh, h3⟩
  · exact .inl h2
  · refine .inr ⟨g, cap, cur, hv, hgB, (hg.block g ?_ (by intro e; injection e with e; omega)).trans hh, h3⟩
    rcases Nat.lt_or_ge g w.heap.size with hlt | hge
    · exact hlt
    · rw [Array.getElem?_eq_none hge] at hh; cases hh
def lenV : Value → Nat | .slice _ n _ => n | _ => 0
end Go.Proofs.YtfdlkbbepkghmaaGreatDoor
