/-
  The contracts of the reference's One and Floor.
-/
import Derived.Test.YtfonldogbfkpiaaGreatRefV
import Derived.Test.YtfonldogbfkpiaaGreatK8
namespace Go.Proofs.YtfonldogbfkpiaaGreat
open Go.RowKit
theorem floor_pos (X y : Nat) : (X : Int) / (y : Int) = sg false (X / y) ∧ ((X : Int) % (y : Int)).toNat = X % y := by
  rw [sg_false]; exact ⟨by simp, by omega⟩
theorem floor_zero {X y : Nat} (hy : 0 < y) (h : X % y = 0) : (-(X : Int)) / (y : Int) = sg true (X / y) ∧ ((-(X : Int)) % (y : Int)).toNat = X % y := by
  have hd := Nat.div_add_mod X y
  rw [h, Nat.add_zero] at hd
  rw [sg_true, h]
  have hu := (Int.ediv_emod_unique (a := -(X : Int)) (b := (y : Int)) (q := -((X / y : Nat) : Int)) (r := 0) (by omega)).2 ⟨by rw [Int.zero_add, Int.mul_neg, ← Int.natCast_mul, hd], by omega, by omega⟩
  exact ⟨hu.1, by rw [hu.2]; rfl⟩
theorem floor_neg {X y : Nat} (hy : 0 < y) (h : 0 < X % y) : (-(X : Int)) / (y : Int) = sg true (X / y + 1) ∧ ((-(X : Int)) % (y : Int)).toNat = y - X % y := by
  have hd := Nat.div_add_mod X y
  have hm := Nat.mod_lt X hy
  rw [sg_true]
  have hu := (Int.ediv_emod_unique (a := -(X : Int)) (b := (y : Int)) (q := -((X / y + 1 : Nat) : Int)) (r := ((y - X % y : Nat) : Int)) (by omega)).2 ⟨by rw [Int.mul_neg, ← Int.natCast_mul, Nat.mul_add, Nat.mul_one]; omega, by omega, by omega⟩
  exact ⟨hu.1, by rw [hu.2]; rfl⟩
theorem NV.more2 {w : World} {v : Value} {x L L' : Nat} (h : NV w v x L) (hL : L ≤ L') : NV w v x L' := ⟨h.1, Nat.lt_of_lt_of_le h.2 (Bs_mono hL)⟩
set_option maxRecDepth 100000 in
theorem none_v (w : World) : Calls Tryz.prog 69 #[] w fun e w' => ∃ B k d, e = .returned (.slice B k d) ∧ NV w' (.slice B k d) 1 1 ∧ Below w.heap.size w w' := by
  have r1 : Raw (w.alloc (.cells #[.int .u32 1] 114)) (.slice (some ⟨w.heap.size, 0, none⟩) 1 1) [1] := raw_lit w _ _ 1 _ rfl (okD_one (by decide)) rfl (by decide) rfl
  have hd : digs 1 = [1] := by rw [digs_pos (by omega), show 1 / 4294967296 = 0 from rfl, digs_zero]
  have hN : NV (w.alloc (.cells #[.int .u32 1] 114)) (.slice (some ⟨w.heap.size, 0, none⟩) 1 1) 1 1 := ⟨by unfold Num; rw [hd]; exact r1, by rw [Bs_one]; omega⟩
  have hb := below_alloc w (.cells #[.int .u32 1] 114)
  go_enter Tryz.func69, Tryz.ntmps69
  go_wp2_with fail
  go_ret
  exact ⟨_, _, _, rfl, hN, hb⟩
theorem ret_floor {fn : Func} {p q : Tmp} (h : fn.results = #[.cell p 34, .tmp q]) {tmps : Array Value} {w : World} {g : Nat} {a b : Value} {t : TypeId} (hp : tmps.getD p undef = .pointer (some ⟨g, 0, none⟩)) (hb : Box w g #[a, b] t) :
    (results fn tmps).run Tryz.prog w = .ok (.tuple #[.agg #[a, b], tmps.getD q undef]) w := by
  have hp' : tmps[p]?.getD undef = .pointer (some ⟨g, 0, none⟩) := by simpa using hp
  have h1 := run_loadVar_row (P := Tryz.prog) w g t 34 #[a, b] (0, 0) _ hb Tryz.underlying34 rfl info_intN
  simp [results, h, hp', asAddr, h1]
section
variable {A A' : Option Addr} {n n' c c' L L' y : Nat} {s : Bool} {z : Int} {w : World}
end
end Go.Proofs.YtfonldogbfkpiaaGreat
