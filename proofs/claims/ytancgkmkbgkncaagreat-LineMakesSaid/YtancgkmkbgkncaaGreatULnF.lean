/-
  Few digits; zero lines.
-/
import Derived.Test.YtancgkmkbgkncaaGreatUSq
import Derived.Test.YtancgkmkbgkncaaGreatUEM
import Derived.Test.YtancgkmkbgkncaaGreatULnI
namespace Go.Proofs.YtancgkmkbgkncaaGreat
open Go.RowKit

section
variable {A0 A1 A2 A3 A18 A19 A20 D0 D1 D2 D3 : Option Addr} {n0 n1 n2 n3 n18 n19 n20 c0 c1 c2 c3 c18 c19 c20 m0 m1 m2 m3 e0 e1 e2 e3 : Nat} {s0 s1 s2 s3 s18 s19 s20 : Bool} {q0 q1 q2 q3 q4 q5 q6 q7 : Rat} {z0 z1 z2 z3 z4 z5 z6 z7 z8 z9 z10 z11 : Int} {L L0 L1 x y : Nat} {k : Int} {b : Bool} {w : World}
theorem ints_below {v : Value} {W : World} (h : Ints w v) (hb : Below w.heap.size w W) : Ints W v := by
  obtain ⟨A, n, c, rfl, h1, h2, h3⟩ := h
  exact ⟨A, n, c, rfl, h1, h2, fun j hj => by
    obtain ⟨ad, z, e1, e2, e3⟩ := h3 j hj
    exact ⟨ad, z, e1, Nat.lt_of_lt_of_le e2 hb.size, (hb.cell (p := ad.add j) (by rw [addr_add_block]; exact e2)).trans e3⟩⟩
set_option maxRecDepth 100000 in
theorem small3_yes {g : Nat} {t : TypeId} (hc : Box w g #[.slice A0 n0 c0, .slice A1 n1 c1, .slice A2 n2 c2] t) (k0 : n0 ≤ 5) (k1 : n1 ≤ 5) (k2 : n2 ≤ 5) :
    Calls Tryz.prog 9 #[.int .i64 5, .slice (some ⟨g, 0, none⟩) 3 3] w fun e w' => e = .returned (.bool true) ∧ Below w.heap.size w w' := by
  have q0 : ¬ 5 < n0 := by omega
  have q1 : ¬ 5 < n1 := by omega
  have q2 : ¬ 5 < n2 := by omega
  obtain ⟨c0, c1, c2⟩ := hc.cells3
  go_enter Tryz.func9, Tryz.ntmps9
  go_wp2_with fail
  refine wp_loop_rounds 4 ?_
  rw [rounds_succ]
  go_wp2_with fail
  rw [rounds_succ]
  go_wp2_with fail
  rw [rounds_succ]
  go_wp2_with fail
  rw [rounds_succ]
  go_wp2_with fail
  go_ret
  exact ⟨rfl, Below.refl _ _⟩
set_option maxRecDepth 100000 in
theorem small3_n0 {g : Nat} {t : TypeId} (hc : Box w g #[.slice A0 n0 c0, .slice A1 n1 c1, .slice A2 n2 c2] t) (k0 : 5 < n0) :
    Calls Tryz.prog 9 #[.int .i64 5, .slice (some ⟨g, 0, none⟩) 3 3] w fun e w' => e = .returned (.bool false) ∧ Below w.heap.size w w' := by
  obtain ⟨c0, c1, c2⟩ := hc.cells3
  go_enter Tryz.func9, Tryz.ntmps9
  go_wp2_with fail
  refine wp_loop_rounds 4 ?_
  rw [rounds_succ]
  go_wp2_with fail
  go_ret
  exact ⟨rfl, Below.refl _ _⟩
set_option maxRecDepth 100000 in
theorem small3_n1 {g : Nat} {t : TypeId} (hc : Box w g #[.slice A0 n0 c0, .slice A1 n1 c1, .slice A2 n2 c2] t) (k0 : n0 ≤ 5) (k1 : 5 < n1) :
    Calls Tryz.prog 9 #[.int .i64 5, .slice (some ⟨g, 0, none⟩) 3 3] w fun e w' => e = .returned (.bool false) ∧ Below w.heap.size w w' := by
  have q0 : ¬ 5 < n0 := by omega
  obtain ⟨c0, c1, c2⟩ := hc.cells3
  go_enter Tryz.func9, Tryz.ntmps9
  go_wp2_with fail
  refine wp_loop_rounds 4 ?_
  rw [rounds_succ]
  go_wp2_with fail
  rw [rounds_succ]
  go_wp2_with fail
  go_ret
  exact ⟨rfl, Below.refl _ _⟩
set_option maxRecDepth 100000 in
theorem small3_n2 {g : Nat} {t : TypeId} (hc : Box w g #[.slice A0 n0 c0, .slice A1 n1 c1, .slice A2 n2 c2] t) (k0 : n0 ≤ 5) (k1 : n1 ≤ 5) (k2 : 5 < n2) :
    Calls Tryz.prog 9 #[.int .i64 5, .slice (some ⟨g, 0, none⟩) 3 3] w fun e w' => e = .returned (.bool false) ∧ Below w.heap.size w w' := by
  have q0 : ¬ 5 < n0 := by omega
  have q1 : ¬ 5 < n1 := by omega
  obtain ⟨c0, c1, c2⟩ := hc.cells3
  go_enter Tryz.func9, Tryz.ntmps9
  go_wp2_with fail
  refine wp_loop_rounds 4 ?_
  rw [rounds_succ]
  go_wp2_with fail
  rw [rounds_succ]
  go_wp2_with fail
  rw [rounds_succ]
  go_wp2_with fail
  go_ret
  exact ⟨rfl, Below.refl _ _⟩
theorem lnew_zn (h0 : RI w s0 (.slice A0 n0 c0) z0 L) (h1 : RI w s1 (.slice A1 n1 c1) z1 L) (hz : z0 = 0 ∧ z1 = 0) :
    Calls Tryz.prog 11 #[.agg #[.bool s0, .slice A0 n0 c0], .agg #[.bool s1, .slice A1 n1 c1], .agg #[.bool s2, .slice A2 n2 c2]] w fun e w' => ∃ s18 A18 n18 c18 s19 A19 n19 c19 s20 A20 n20 c20, e = .returned (.tuple #[.agg #[.bool s18, .slice A18 n18 c18, .bool s19, .slice A19 n19 c19, .bool s20, .slice A20 n20 c20], .bool false]) ∧ NI w' s18 (.slice A18 n18 c18) 0 1 ∧ NI w' s19 (.slice A19 n19 c19) 0 1 ∧ NI w' s20 (.slice A20 n20 c20) 0 1 ∧ Below w.heap.size w w' := by
  refine (lnew_z h0 h1 hz).mono ?_
  rintro e w' ⟨h1, h2⟩
  exact ⟨_, _, _, _, _, _, _, _, _, _, _, _, h1, ⟨slice_nil _, rfl⟩, ⟨slice_nil _, rfl⟩, ⟨slice_nil _, rfl⟩, h2⟩
theorem lthrough_zn (h : NQ w s0 (.slice A0 n0 c0) (.slice D0 m0 e0) q0 L) (h' : NQ w s1 (.slice A1 n1 c1) (.slice D1 m1 e1) q1 L) (k : NQ w s2 (.slice A2 n2 c2) (.slice D2 m2 e2) q2 L) (k' : NQ w s3 (.slice A3 n3 c3) (.slice D3 m3 e3) q3 L) (hz : q0 = q2 ∧ q1 = q3) (hL : L ≤ 10000) :
    Calls Tryz.prog 18 #[.agg #[.bool s0, .slice A0 n0 c0, .slice D0 m0 e0, .bool s1, .slice A1 n1 c1, .slice D1 m1 e1], .agg #[.bool s2, .slice A2 n2 c2, .slice D2 m2 e2, .bool s3, .slice A3 n3 c3, .slice D3 m3 e3]] w fun e w' => ∃ s18 A18 n18 c18 s19 A19 n19 c19 s20 A20 n20 c20, e = .returned (.tuple #[.agg #[.bool s18, .slice A18 n18 c18, .bool s19, .slice A19 n19 c19, .bool s20, .slice A20 n20 c20], .bool false]) ∧ NI w' s18 (.slice A18 n18 c18) 0 1 ∧ NI w' s19 (.slice A19 n19 c19) 0 1 ∧ NI w' s20 (.slice A20 n20 c20) 0 1 ∧ Below w.heap.size w w' := by
  refine (lthrough_z h h' k k' hz hL).mono ?_
  rintro e w' ⟨h1, h2⟩
  exact ⟨_, _, _, _, _, _, _, _, _, _, _, _, h1, ⟨slice_nil _, rfl⟩, ⟨slice_nil _, rfl⟩, ⟨slice_nil _, rfl⟩, h2⟩
theorem gmakel_zn (h0 : NI w s0 (.slice A0 n0 c0) z0 L) (h1 : NI w s1 (.slice A1 n1 c1) z1 L) (h2 : NI w s2 (.slice A2 n2 c2) z2 L) (hz : z0 = 0 ∧ z1 = 0) (hL : L ≤ 1000) :
    Calls Tryz.prog 12 #[.agg #[.bool s0, .slice A0 n0 c0], .agg #[.bool s1, .slice A1 n1 c1], .agg #[.bool s2, .slice A2 n2 c2]] w fun e w' => ∃ s18 A18 n18 c18 s19 A19 n19 c19 s20 A20 n20 c20, e = .returned (.tuple #[.agg #[.bool s18, .slice A18 n18 c18, .bool s19, .slice A19 n19 c19, .bool s20, .slice A20 n20 c20], .bool false]) ∧ NI w' s18 (.slice A18 n18 c18) 0 1 ∧ NI w' s19 (.slice A19 n19 c19) 0 1 ∧ NI w' s20 (.slice A20 n20 c20) 0 1 ∧ Below w.heap.size w w' := by
  refine (gmakel_z h0 h1 h2 hz hL).mono ?_
  rintro e w' ⟨h1, h2⟩
  exact ⟨_, _, _, _, _, _, _, _, _, _, _, _, h1, ⟨slice_nil _, rfl⟩, ⟨slice_nil _, rfl⟩, ⟨slice_nil _, rfl⟩, h2⟩
theorem gthrough_zn (h : PQ w s0 (.slice A0 n0 c0) (.slice D0 m0 e0) q0 8) (h' : PQ w s1 (.slice A1 n1 c1) (.slice D1 m1 e1) q1 8) (k : PQ w s2 (.slice A2 n2 c2) (.slice D2 m2 e2) q2 8) (k' : PQ w s3 (.slice A3 n3 c3) (.slice D3 m3 e3) q3 8) (hz : q0 = q2 ∧ q1 = q3) :
    Calls Tryz.prog 20 #[.agg #[.bool s0, .slice A0 n0 c0, .slice D0 m0 e0, .bool s1, .slice A1 n1 c1, .slice D1 m1 e1], .agg #[.bool s2, .slice A2 n2 c2, .slice D2 m2 e2, .bool s3, .slice A3 n3 c3, .slice D3 m3 e3]] w fun e w' => ∃ s18 A18 n18 c18 s19 A19 n19 c19 s20 A20 n20 c20, e = .returned (.tuple #[.agg #[.bool s18, .slice A18 n18 c18, .bool s19, .slice A19 n19 c19, .bool s20, .slice A20 n20 c20], .bool false]) ∧ NI w' s18 (.slice A18 n18 c18) 0 1 ∧ NI w' s19 (.slice A19 n19 c19) 0 1 ∧ NI w' s20 (.slice A20 n20 c20) 0 1 ∧ Below w.heap.size w w' := by
  refine (gthrough_z h h' k k' hz).mono ?_
  rintro e w' ⟨h1, h2⟩
  exact ⟨_, _, _, _, _, _, _, _, _, _, _, _, h1, ⟨slice_nil _, rfl⟩, ⟨slice_nil _, rfl⟩, ⟨slice_nil _, rfl⟩, h2⟩
end
end Go.Proofs.YtancgkmkbgkncaaGreat
