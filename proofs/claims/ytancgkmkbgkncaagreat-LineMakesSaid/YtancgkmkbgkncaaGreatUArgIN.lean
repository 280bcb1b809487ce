/-
  An argument that is an integer (a struct of a sign and a slice), opened and shut.
-/
import Derived.Test.YtancgkmkbgkncaaGreatUEM
import Derived.Test.YtancgkmkbgkncaaGreatURaws
import Derived.Lib.SmallJoins
namespace Go.Proofs.YtancgkmkbgkncaaGreat
open Go.ChangeShapes Go.WideShapes Go.ChangeAt Go.WideMaps Go.WideElems Go.RowKit Go.Deep

theorem open_boolcell {H : Type} {enc : TypeId × Value → H} {W : World} {base : Nat} {sp : Nat → Bool} {held : Bool} {t : TypeId} {n : Nat} {v : Value} {y : DataW H × List MemPlace} (ht : Tryz.prog.underlying t = some .bool) (h : DataW.trod enc Tryz.prog W base sp held n t [v] = some y) :
    ∃ b, v = .bool b ∧ y = (.lit (.bool b), []) := by
  obtain ⟨b, h1, h2⟩ := DataW.trod_bool ht h
  injection h1 with h1
  exact ⟨b, h1, h2⟩
theorem cells_int2 : Tryz.prog.cellsOf 25 = 2 := by kernel_rfl
set_option maxRecDepth 100000 in
theorem open_intarg {H : Type} {enc : TypeId × Value → H} {W : World} {base : Nat} {v : Value} {d : DataW H} {p : List MemPlace} (hv : Value.okWide Tryz.prog W .any base 25 v)
    (h0 : DataW.Trod enc Tryz.prog W 0 (fun _ => true) true 25 v d p) :
    ∃ s A n c, v = .agg #[.bool s, .slice A n c] ∧
      (n ≤ c ∧ n ≤ 9223372036854775807 ∧ ∀ j, j < n → ∃ ad z, A = some ad ∧ ad.block < W.heap.size ∧ W.cell? (ad.add j) = some (.int .u32 z) ∧ (Lit.int .u32 z).wf = true) ∧
      ∀ W', Below W.heap.size W W' → ∀ sp : Nat → Bool, (∀ q ∈ p, sp q.block = true) → DataW.Trod enc Tryz.prog W' 0 sp true 25 v d p := by
  obtain ⟨v0, v1, y0, y1, n, rfl, rfl, rfl, h1, h2⟩ := Go.Joins.open_agg2 Tryz.underlying25 (by kernel_rfl) cells_int2 hv h0
  obtain ⟨s, rfl, rfl⟩ := open_boolcell Tryz.underlying4 h1
  have hf : ∃ A n c, v1 = .slice A n c := by
    rcases open_ints Tryz.underlying23 Tryz.underlying153 Tryz.cells_u32 h2 with ⟨hcs, _⟩ | ⟨a, len', cap', zs, hcs, _⟩
    · injection hcs with hcs; exact ⟨_, _, _, hcs⟩
    · injection hcs with hcs; exact ⟨_, _, _, hcs⟩
  obtain ⟨A, m, c, rfl⟩ := hf
  obtain ⟨hrow, hagain⟩ := open_row (p := y1.2) (d := y1.1) Tryz.underlying23 Tryz.underlying153 Tryz.cells_u32 ⟨n, by simpa [Value.cells] using h2⟩
  refine ⟨s, A, m, c, rfl, hrow, fun W' hb sp hsp => ?_⟩
  have hs := hagain W' hb sp (fun q hq => hsp q (by simp [hq]))
  obtain ⟨n2, hs⟩ := hs
  have hb1 : ∃ k, DataW.trod enc Tryz.prog W' 0 sp true k 4 [.bool s] = some (.lit (.bool s), []) := by
    obtain ⟨k, hk⟩ := shut_bool (enc := enc) (w := W') (base := 0) (spare := sp) (held := true) Tryz.underlying4 s
    exact ⟨k, by simpa [Value.cells] using hk⟩
  exact Go.Joins.shut_agg2 Tryz.underlying25 (by kernel_rfl) cells_int2 hb1 ⟨n2, by simpa [Value.cells] using hs⟩
end Go.Proofs.YtancgkmkbgkncaaGreat
