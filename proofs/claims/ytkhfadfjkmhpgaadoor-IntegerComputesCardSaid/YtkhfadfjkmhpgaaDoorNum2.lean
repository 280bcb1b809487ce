/-
  The contracts of the reference's Less and Product.
-/
import Derived.Test.YtkhfadfjkmhpgaaDoorNum
namespace Go.Proofs.YtkhfadfjkmhpgaaDoor
open Go.RowKit

theorem bv_and (a b : BitVec 32) : bits .and .u32 (a.toNat : Int) (b.toNat : Int) = ((a &&& b).toNat : Int) := by
  show IntKind.u32.wrap ((BitVec.ofInt 32 (a.toNat : Int) &&& BitVec.ofInt 32 (b.toNat : Int)).toNat : Int) = _
  rw [IntKind.wrap_u32, BitVec.ofInt_natCast, BitVec.ofInt_natCast, BitVec.ofNat_toNat, BitVec.ofNat_toNat, BitVec.setWidth_eq, BitVec.setWidth_eq]
  have := (a &&& b).isLt
  omega
theorem bv_or (a b : BitVec 32) : bits .or .u32 (a.toNat : Int) (b.toNat : Int) = ((a ||| b).toNat : Int) := by
  show IntKind.u32.wrap ((BitVec.ofInt 32 (a.toNat : Int) ||| BitVec.ofInt 32 (b.toNat : Int)).toNat : Int) = _
  rw [IntKind.wrap_u32, BitVec.ofInt_natCast, BitVec.ofInt_natCast, BitVec.ofNat_toNat, BitVec.ofNat_toNat, BitVec.setWidth_eq, BitVec.setWidth_eq]
  have := (a ||| b).isLt
  omega
theorem bv_xor (a b : BitVec 32) : bits .xor .u32 (a.toNat : Int) (b.toNat : Int) = ((a ^^^ b).toNat : Int) := by
  show IntKind.u32.wrap ((BitVec.ofInt 32 (a.toNat : Int) ^^^ BitVec.ofInt 32 (b.toNat : Int)).toNat : Int) = _
  rw [IntKind.wrap_u32, BitVec.ofInt_natCast, BitVec.ofInt_natCast, BitVec.ofNat_toNat, BitVec.ofNat_toNat, BitVec.setWidth_eq, BitVec.setWidth_eq]
  have := (a ^^^ b).isLt
  omega
theorem bv_ones : IntKind.u32.max = ((BitVec.allOnes 32).toNat : Int) := rfl
theorem bv_top (a : BitVec 32) : ((a.toNat : Int) / 2147483648) = ((if a.msb then 1 else 0 : Nat) : Int) := by
  have h := a.isLt
  rw [BitVec.msb_eq_decide]
  by_cases h2 : 2 ^ (32 - 1) ≤ a.toNat
  · simp only [h2, decide_true, if_true]; omega
  · simp only [h2, decide_false]
    simp only [Bool.false_eq_true, if_false]; omega
theorem borrow_bits {x y d : Nat} (hx : x < 4294967296) (hy : y < 4294967296) (hd : d < 4294967296) (b : Nat) (hb : b ≤ 1) (e : ((x : Int) - y - b) % 4294967296 = d) :
    ∃ bo : Nat, bo ≤ 1 ∧ d + y + b = x + 4294967296 * bo ∧
    bits .or .u32 (bits .and .u32 (bits .xor .u32 IntKind.u32.max (x : Int)) (y : Int)) (bits .and .u32 (bits .xor .u32 IntKind.u32.max (bits .xor .u32 (x : Int) (y : Int))) (d : Int)) / 2147483648 = (bo : Int) := by
  have ex : x = (BitVec.ofNat 32 x).toNat := by rw [BitVec.toNat_ofNat]; omega
  have ey : y = (BitVec.ofNat 32 y).toNat := by rw [BitVec.toNat_ofNat]; omega
  have ed : d = (BitVec.ofNat 32 d).toNat := by rw [BitVec.toNat_ofNat]; omega
  generalize BitVec.ofNat 32 x = X at ex
  generalize BitVec.ofNat 32 y = Y at ey
  generalize BitVec.ofNat 32 d = D at ed
  have mx := BitVec.msb_eq_decide X
  have my := BitVec.msb_eq_decide Y
  have md := BitVec.msb_eq_decide D
  rw [← ex] at mx
  rw [← ey] at my
  rw [← ed] at md
  rw [show (2 : Nat) ^ (32 - 1) = 2147483648 from rfl] at mx my md
  have key : bits .or .u32 (bits .and .u32 (bits .xor .u32 IntKind.u32.max (x : Int)) (y : Int)) (bits .and .u32 (bits .xor .u32 IntKind.u32.max (bits .xor .u32 (x : Int) (y : Int))) (d : Int)) / 2147483648 = ((if (!decide (2147483648 ≤ x) && decide (2147483648 ≤ y) || !(decide (2147483648 ≤ x) ^^ decide (2147483648 ≤ y)) && decide (2147483648 ≤ d)) then 1 else 0 : Nat) : Int) := by
    rw [ex, ey, ed, bv_ones, bv_xor, bv_xor, bv_xor, bv_and, bv_and, bv_or, bv_top]
    rw [← ex, ← ey, ← ed]
    simp only [BitVec.msb_or, BitVec.msb_and, BitVec.msb_xor, show (BitVec.allOnes 32).msb = true from rfl, mx, my, md, Bool.true_xor]
  rw [key]
  clear key mx my md
  split <;> rename_i hc <;> simp at hc <;> refine ⟨_, ?_, ?_, rfl⟩ <;> omega

theorem sub32_any (x y b : Nat) (hx : x < 4294967296) (hy : y < 4294967296) (hb : b ≤ 1) (w : World) : Calls Tryd.prog 58 #[.int .u32 (x : Int), .int .u32 (y : Int), .int .u32 (b : Int)] w fun e w' => ∃ d bo : Nat, e = .returned (.tuple #[.int .u32 (d : Int), .int .u32 (bo : Int)]) ∧ d < 4294967296 ∧ bo ≤ 1 ∧ d + y + b = x + 4294967296 * bo ∧ w = w' := by
  obtain ⟨d, hd⟩ : ∃ d : Nat, ((x : Int) - y - b) % 4294967296 = d := ⟨(((x : Int) - y - b) % 4294967296).toNat, by omega⟩
  have hd1 : d < 4294967296 := by omega
  obtain ⟨bo, h1, h2, h3⟩ := borrow_bits hx hy hd1 b hb hd
  have HD := Lib.hid hd
  have H2 := Lib.hid h2
  have H3 := Lib.hid h3
  clear hd h2 h3
  go_enter Tryd.func58, Tryd.ntmps58
  go_wp2
  go_ret2
  rw [HD.out, H3.out]
  exact ⟨d, bo, rfl, hd1, h1, H2.out, rfl⟩
end Go.Proofs.YtkhfadfjkmhpgaaDoor
