/-
  The contracts of the reference's naturals, said of values with a bound on the digits; Small of two numbers.
-/
import Derived.Test.YtfonldogbfkpiaaGreatK6
import Derived.Test.YtfonldogbfkpiaaGreatForms
namespace Go.Proofs.YtfonldogbfkpiaaGreat
open Go.RowKit

section
variable {A A' : Option Addr} {n n' c c' x y L L' : Nat} {w : World}
theorem nv_len (h : NV w (.slice A n c) x L) : n ≤ L := by rw [(Raw.cap h.1).1]; exact digs_length_le h.2
theorem nsum_v (hx : NV w (.slice A n c) x L) (hy : NV w (.slice A' n' c') y L') (hL : L ≤ 1000000) (hL' : L' ≤ 1000000) :
    Calls Tryz.prog 99 #[.slice A n c, .slice A' n' c'] w fun e w' => ∃ B k d, e = .returned (.slice B k d) ∧ NV w' (.slice B k d) (x + y) (max L L' + 1) ∧ Below w.heap.size w w' := by
  have h1 := nv_len hx
  have h2 := nv_len hy
  refine (nsum_is hx.1 hy.1 (by omega) (by omega)).mono ?_
  rintro e w' ⟨B, k, d, rfl, hN, hb⟩
  exact ⟨B, k, d, rfl, ⟨hN, add_lt_Bs hx.2 hy.2⟩, hb⟩
theorem nprod_v (hx : NV w (.slice A n c) x L) (hy : NV w (.slice A' n' c') y L') (hL : L ≤ 1000000) (hL' : L' ≤ 1000000) :
    Calls Tryz.prog 38 #[.slice A n c, .slice A' n' c'] w fun e w' => ∃ B k d, e = .returned (.slice B k d) ∧ NV w' (.slice B k d) (x * y) (L + L') ∧ Below w.heap.size w w' := by
  have h1 := nv_len hx
  have h2 := nv_len hy
  refine (nprod_is hx.1 hy.1 (by omega)).mono ?_
  rintro e w' ⟨B, k, d, rfl, hN, hb⟩
  exact ⟨B, k, d, rfl, ⟨hN, mul_lt_Bs hx.2 hy.2⟩, hb⟩
theorem nless_v (hx : NV w (.slice A n c) x L) (hy : NV w (.slice A' n' c') y L') (hle : y ≤ x) (hL : L ≤ 1000000) :
    Calls Tryz.prog 101 #[.slice A n c, .slice A' n' c'] w fun e w' => ∃ B k d, e = .returned (.slice B k d) ∧ NV w' (.slice B k d) (x - y) L ∧ Below w.heap.size w w' := by
  have h1 := nv_len hx
  refine (nless_is hx.1 hy.1 hle (by omega)).mono ?_
  rintro e w' ⟨B, k, d, rfl, hN, hb⟩
  exact ⟨B, k, d, rfl, ⟨hN, Nat.lt_of_le_of_lt (Nat.sub_le _ _) hx.2⟩, hb⟩
theorem ncmp_v {r : Int} (hx : NV w (.slice A n c) x L) (hy : NV w (.slice A' n' c') y L') (hr : cmpI x y = r) :
    Calls Tryz.prog 100 #[.slice A n c, .slice A' n' c'] w fun e w' => e = .returned (.int .i64 r) ∧ Below w.heap.size w w' := by
  subst hr
  refine (ncmp_is hx.1 hy.1).mono ?_
  rintro e w' ⟨rfl, j, rfl⟩
  exact ⟨rfl, below_drewN (Below.refl _ w) j⟩
theorem ndivide_v (hx : NV w (.slice A n c) x L) (hy : NV w (.slice A' n' c') y L') (hy0 : 0 < y) (hL : L ≤ 1000) :
    Calls Tryz.prog 71 #[.slice A n c, .slice A' n' c'] w fun e w' => ∃ B k d B' k' d', e = .returned (.tuple #[.slice B k d, .slice B' k' d']) ∧ NV w' (.slice B k d) (x / y) L ∧ NV w' (.slice B' k' d') (x % y) L' ∧ Below w.heap.size w w' := by
  have h1 := nv_len hx
  refine (ndivide_is hx.1 hy.1 hy0 (by omega)).mono ?_
  rintro e w' ⟨B, k, d, B', k', d', rfl, hN, hM, hb⟩
  exact ⟨B, k, d, B', k', d', rfl, ⟨hN, Nat.lt_of_le_of_lt (Nat.div_le_self _ _) hx.2⟩, ⟨hM, Nat.lt_trans (Nat.mod_lt _ hy0) hy.2⟩, hb⟩
theorem cmp_at {r : Int} (hx : RV w (.slice A n c) x L) (hy : RV w (.slice A' n' c') y L') (hr : cmpI x y = r) :
    Calls Tryz.prog 74 #[.slice A n c, .slice A' n' c'] w fun e w' => e = .returned (.int .i64 r) ∧ Below w.heap.size w w' := by
  subst hr; exact cmp_v hx hy
theorem subno_v (hx : RV w (.slice A n c) x L) (hy : RV w (.slice A' n' c') y L') (h : x < y) :
    Calls Tryz.prog 121 #[.slice A n c, .slice A' n' c'] w fun e w' => e = .returned (.tuple #[.slice none 0 0, .bool false]) ∧ Below w.heap.size w w' := by
  obtain ⟨ds, h1, h2, h3⟩ := hx
  obtain ⟨es, k1, k2, k3⟩ := hy
  exact sub_lt h1 k1 (Lib.hid h2) (Lib.hid k2) h
end
end Go.Proofs.YtfonldogbfkpiaaGreat
