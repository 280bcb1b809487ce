/-
  The contracts once more, said of values with a bound on the digits, as the laws use them.
-/
import Derived.Test.YtkhfadfjkmhpgaaDoorKnown
import Derived.Test.YtkhfadfjkmhpgaaDoorCmp
import Derived.Test.YtkhfadfjkmhpgaaDoorMul
import Derived.Test.YtkhfadfjkmhpgaaDoorTapeNat
namespace Go.Proofs.YtkhfadfjkmhpgaaDoor
open Go.RowKit

/-- v reads as x, with at most L digits, zeros at the end among them. -/
def RV (w : World) (v : Value) (x L : Nat) : Prop := ∃ ds, Raw w v ds ∧ val ds = x ∧ ds.length ≤ L
/-- v reads as x in normal form, with at most L digits. -/
def NV (w : World) (v : Value) (x L : Nat) : Prop := Num w v x ∧ x < Bs L
/-- v reads as x in memory that was made after block b. -/
def GV (w : World) (b : Nat) (v : Value) (x L : Nat) : Prop := ∃ B ds, b < B ∧ Grow w B v ds ∧ val ds = x ∧ ds.length ≤ L

/-- The same in normal form. -/
def GN (w : World) (b : Nat) (v : Value) (x L : Nat) : Prop := ∃ B, b < B ∧ Grow w B v (digs x) ∧ x < Bs L

section
variable {w w' : World} {v : Value} {x L b : Nat}
theorem GN.keep (h : GN w b v x L) (hb : Below w.heap.size w w') : GN w' b v x L := by
  obtain ⟨B, h0, h1, h2⟩ := h; exact ⟨B, h0, h1.keep hb, h2⟩
theorem GN.other (h : GN w b v x L) (hb : w.grownBy w' (some b)) : GN w' b v x L := by
  obtain ⟨B, h0, h1, h2⟩ := h; exact ⟨B, h0, h1.other hb h0, h2⟩
theorem GN.nv (h : GN w b v x L) (hL : L ≤ 1000000) : NV w v x L := by
  obtain ⟨B, h0, h1, h2⟩ := h
  have := digs_length_le h2
  exact ⟨h1.raw (by omega), h2⟩
theorem NV.rv (h : NV w v x L) : RV w v x L := ⟨digs x, h.1, val_digs x, digs_length_le h.2⟩
theorem NV.below (h : NV w v x L) (hb : Below w.heap.size w w') : NV w' v x L := ⟨h.1.below hb, h.2⟩
theorem RV.below (h : RV w v x L) (hb : Below w.heap.size w w') : RV w' v x L := by
  obtain ⟨ds, h1, h2, h3⟩ := h; exact ⟨ds, h1.below hb, h2, h3⟩
theorem RV.lt (h : RV w v x L) : x < Bs L := by
  obtain ⟨ds, h1, rfl, h3⟩ := h; exact Nat.lt_of_lt_of_le (val_lt h1.okD) (Bs_mono h3)
theorem GV.keep (h : GV w b v x L) (hb : Below w.heap.size w w') : GV w' b v x L := by
  obtain ⟨B, ds, h0, h1, h2, h3⟩ := h; exact ⟨B, ds, h0, h1.keep hb, h2, h3⟩
theorem GV.other (h : GV w b v x L) (hb : w.grownBy w' (some b)) : GV w' b v x L := by
  obtain ⟨B, ds, h0, h1, h2, h3⟩ := h; exact ⟨B, ds, h0, h1.other hb h0, h2, h3⟩
theorem GV.rv (h : GV w b v x L) (hL : L ≤ 1000000) : RV w v x L := by
  obtain ⟨B, ds, h0, h1, h2, h3⟩ := h; exact ⟨ds, h1.raw (by omega), h2, h3⟩
theorem RV.more {L' : Nat} (h : RV w v x L) (hL : L ≤ L') : RV w v x L' := by
  obtain ⟨ds, h1, h2, h3⟩ := h; exact ⟨ds, h1, h2, by omega⟩
end
theorem add_lt_Bs {x y L L' : Nat} (hx : x < Bs L) (hy : y < Bs L') : x + y < Bs (max L L' + 1) := by
  have h1 := Bs_mono (show L ≤ max L L' by omega)
  have h2 := Bs_mono (show L' ≤ max L L' by omega)
  rw [Bs_succ]; omega
theorem mul_lt_Bs {x y L L' : Nat} (hx : x < Bs L) (hy : y < Bs L') : x * y < Bs (L + L') := by
  rw [Bs_add]
  exact Nat.mul_lt_mul'' hx hy

section
variable {A A' : Option Addr} {n n' c c' x y L L' : Nat} {w : World}
theorem add_v (hx : RV w (.slice A n c) x L) (hy : RV w (.slice A' n' c') y L') (hL : L ≤ 1000000) (hL' : L' ≤ 1000000) :
    Calls Tryd.prog 29 #[.slice A n c, .slice A' n' c'] w fun e w' => ∃ B k d, e = .returned (.slice B k d) ∧ NV w' (.slice B k d) (x + y) (max L L' + 1) ∧ Below w.heap.size w w' := by
  have hb := add_lt_Bs hx.lt hy.lt
  obtain ⟨ds, h1, rfl, h3⟩ := hx
  obtain ⟨es, k1, rfl, k3⟩ := hy
  refine (add_any h1 k1 (by omega) (by omega)).mono ?_
  rintro e w' ⟨B, k, d, rfl, hN, hbl⟩
  exact ⟨B, k, d, rfl, ⟨hN, hb⟩, hbl⟩
theorem mul_v (hx : RV w (.slice A n c) x L) (hy : RV w (.slice A' n' c') y L') (hL : L ≤ 1000000) (hL' : L' ≤ 1000000) :
    Calls Tryd.prog 39 #[.slice A n c, .slice A' n' c'] w fun e w' => ∃ B k d, e = .returned (.slice B k d) ∧ NV w' (.slice B k d) (x * y) (L + L') ∧ Below w.heap.size w w' := by
  have hb := mul_lt_Bs hx.lt hy.lt
  have l1 := digs_length_le hx.lt
  have l2 := digs_length_le hy.lt
  obtain ⟨ds, h1, h2, h3⟩ := hx
  obtain ⟨es, k1, k2, k3⟩ := hy
  refine (mul_is h1 k1 (Lib.hid h2) (Lib.hid k2) (by omega)).mono ?_
  rintro e w' ⟨B, k, d, rfl, hN, hbl⟩
  exact ⟨B, k, d, rfl, ⟨hN, hb⟩, hbl⟩
theorem sub_v (hx : RV w (.slice A n c) x L) (hy : RV w (.slice A' n' c') y L') (hle : y ≤ x) :
    Calls Tryd.prog 31 #[.slice A n c, .slice A' n' c'] w fun e w' => ∃ B k d, e = .returned (.tuple #[.slice B k d, .bool true]) ∧ NV w' (.slice B k d) (x - y) L ∧ Below w.heap.size w w' := by
  have hb : x - y < Bs L := Nat.lt_of_le_of_lt (Nat.sub_le _ _) hx.lt
  obtain ⟨ds, h1, h2, h3⟩ := hx
  obtain ⟨es, k1, k2, k3⟩ := hy
  refine (sub_ge h1 k1 (Lib.hid h2) (Lib.hid k2) hle).mono ?_
  rintro e w' ⟨B, k, d, rfl, hN, hbl⟩
  exact ⟨B, k, d, rfl, ⟨hN, hb⟩, hbl⟩
theorem norm_v (hx : RV w (.slice A n c) x L) (hL : L ≤ 1000000) :
    Calls Tryd.prog 35 #[.slice A n c] w fun e w' => ∃ B k d, e = .returned (.slice B k d) ∧ NV w' (.slice B k d) x L ∧ Below w.heap.size w w' := by
  have hb := hx.lt
  obtain ⟨ds, h1, h2, h3⟩ := hx
  refine (norm_is h1 (Lib.hid h2)).mono ?_
  rintro e w' ⟨v, rfl, hg, hbl⟩
  obtain ⟨B, d, rfl⟩ := hg.form
  have hl := digs_length_le hb
  exact ⟨B, _, d, rfl, ⟨hg.raw (by omega), hb⟩, hbl⟩
theorem same_v (hx : NV w (.slice A n c) x L) (hy : NV w (.slice A' n' c') y L') (he : x = y) :
    Calls Tryd.prog 11 #[.slice A n c, .slice A' n' c'] w fun e w' => e = .returned (.bool true) ∧ Below w.heap.size w w' := by
  subst he
  refine (same_true hx.1 hy.1).mono ?_
  rintro e w' ⟨rfl, j, rfl⟩
  exact ⟨rfl, below_drewN (Below.refl _ _) j⟩
theorem cmp_v (hx : RV w (.slice A n c) x L) (hy : RV w (.slice A' n' c') y L') :
    Calls Tryd.prog 54 #[.slice A n c, .slice A' n' c'] w fun e w' => e = .returned (.int .i64 (cmpI x y)) ∧ Below w.heap.size w w' := by
  obtain ⟨ds, h1, h2, h3⟩ := hx
  obtain ⟨es, k1, k2, k3⟩ := hy
  refine (cmp_is h1 k1 (Lib.hid h2) (Lib.hid k2)).mono ?_
  rintro e w' ⟨rfl, j, rfl⟩
  exact ⟨rfl, below_drewN (Below.refl _ _) j⟩
theorem tapenat_v {b : Nat} (m : Nat) (hm : m ≤ 1000) (h : Tape w b) (hb : b < w.heap.size) :
    Calls Tryd.prog 48 #[.pointer (some ⟨b, 0, none⟩), .int .i64 (m : Int)] w fun e w' => ∃ x B k d, e = .returned (.slice B k d) ∧ NV w' (.slice B k d) x m ∧ Tape w' b ∧ w.grownBy w' (some b) := by
  refine (tapenat_any m hm h hb).mono ?_
  rintro e w' ⟨x, B, k, d, rfl, h1, h2, h3, h4⟩
  exact ⟨x, B, k, d, rfl, ⟨h2, h1⟩, h3, h4⟩
theorem nats_v {b : Nat} (hx : NV w (.slice A n c) x L) (z : Nat) (hz : z ≤ 1000) (hb : b < w.heap.size) (hL : L ≤ 1000000) :
    Calls Tryd.prog 26 #[.slice A n c, .int .i64 (z : Int)] w fun e w' => ∃ B k d, e = .returned (.slice B k d) ∧ GV w' b (.slice B k d) x (L + 2) ∧ Below w.heap.size w w' := by
  have hl := digs_length_le hx.2
  refine (nats_any hx.1 z hz (by omega)).mono ?_
  rintro e w' ⟨v, rfl, hg, hbl⟩
  obtain ⟨B, d, rfl⟩ := hg.form
  refine ⟨B, _, d, rfl, ⟨w.heap.size, _, hb, hg, ?_, ?_⟩, hbl⟩
  · rw [val_append, val_replicate, val_digs]; omega
  · rw [List.length_append, List.length_replicate]; omega
/-- Without zeros at the end the copy is in normal form. -/
theorem nats0_v {b : Nat} (hx : NV w (.slice A n c) x L) (hb : b < w.heap.size) (hL : L ≤ 1000000) :
    Calls Tryd.prog 26 #[.slice A n c, .int .i64 0] w fun e w' => ∃ B k d, e = .returned (.slice B k d) ∧ GN w' b (.slice B k d) x L ∧ Below w.heap.size w w' := by
  have hl := digs_length_le hx.2
  refine (nats_any hx.1 0 (by omega) (by omega)).mono ?_
  rintro e w' ⟨v, rfl, hg, hbl⟩
  obtain ⟨B, d, rfl⟩ := hg.form
  rw [Nat.zero_mod, List.replicate_zero, List.append_nil] at hg
  rw [Nat.zero_mod, List.replicate_zero, List.append_nil]
  exact ⟨B, _, d, rfl, ⟨w.heap.size, hb, hg, hx.2⟩, hbl⟩
end
end Go.Proofs.YtkhfadfjkmhpgaaDoor
