/-
  PtY, PtL in one text.
-/
import Derived.Test.YtancgkmkbgkncaaGreatDoorX1
import Derived.Test.YtancgkmkbgkncaaGreatDoorPtK
import Derived.Test.YtancgkmkbgkncaaGreatDoorPtP
import Derived.Test.YtancgkmkbgkncaaGreatDoorTextP
namespace Go.Proofs.YtancgkmkbgkncaaGreatDoor
open Go.RowKit

theorem cutC_at {l : List Nat} (m : List Nat) (h : 44 ∉ l) : cutC (l ++ 44 :: m) = (l, m, true) := by
  induction l with
  | nil => rw [List.nil_append, cutC_cons, if_pos rfl]
  | cons b t ih =>
    rw [List.mem_cons, not_or] at h
    rw [List.cons_append, cutC_cons, if_neg (fun h1 => h.1 h1.symm), ih h.2]
theorem dig_ne44 {l : List Nat} (h : ∀ b ∈ l, Dig b) : 44 ∉ l := fun hm => by
  have h1 := h 44 hm
  exact absurd h1.1 (by omega)
theorem itoa44 (z : Int) : 44 ∉ itoaB z := by
  unfold itoaB
  rw [List.mem_append, not_or]
  refine ⟨?_, dig_ne44 (decT_dig _)⟩
  split <;> simp
theorem rat44 (q : Rat) : 44 ∉ ratB q := by
  unfold ratB
  split
  · exact itoa44 _
  · rw [List.mem_append, not_or, List.mem_cons, not_or]
    exact ⟨itoa44 _, by decide, dig_ne44 (decT_dig _)⟩
theorem coord_pt (q q' : Rat) : coordX (ptB q q') = ratB q ∧ coordY (ptB q q') = ratB q' ∧ coordOk (ptB q q') = true := by
  have h1 : splitP (ptB q q') = (true, (ratB q ++ 44 :: ratB q') ++ [41]) := by
    unfold ptB; rw [splitP_cons, if_pos rfl]; simp
  have h2 : splitE ((ratB q ++ 44 :: ratB q') ++ [41]) = (true, ratB q ++ 44 :: ratB q') := by rw [splitE_snoc, if_pos rfl]
  have h3 := cutC_at (ratB q') (rat44 q)
  unfold coordX coordY coordOk
  rw [h1]
  simp only [h2, h3]
  simp
end Go.Proofs.YtancgkmkbgkncaaGreatDoor
namespace Go.Proofs.YtancgkmkbgkncaaGreatDoor
open Go.RowKit

section
variable {bs : List Nat} {a a' : Addr} {A0 A1 A2 A3 A4 A5 A6 A7 D0 D1 D2 D3 D4 D5 D6 D7 : Option Addr} {n0 n1 n2 n3 n4 n5 n6 n7 c0 c1 c2 c3 c4 c5 c6 c7 m0 m1 m2 m3 m4 m5 m6 m7 e0 e1 e2 e3 e4 e5 e6 e7 : Nat} {s0 s1 s2 s3 s4 s5 s6 s7 : Bool} {q0 q1 q2 q3 q4 q5 q6 q7 : Rat} {z z' z0 z1 : Int} {L L0 L1 x x0 x1 y : Nat} {k : Int} {b : Bool} {w : World}
/-- The text has the form of a rational number. -/
def okN (bs : List Nat) : Prop := ((∀ b ∈ (splitM (cutS bs).1).2, Dig b) ∧ (splitM (cutS bs).1).2 ≠ []) ∧ ((∀ b ∈ denS bs, Dig b) ∧ denS bs ≠ [])
/-- Its value. -/
def ratV (bs : List Nat) : Rat := mkRat (sg (splitM (cutS bs).1).1 (decN (splitM (cutS bs).1).2)) (decN (denS bs))
/-- errors.Is finds the sentinel at a. -/
def IsE (f : Value) (a : Addr) : Prop := ∀ W : World, Calls Tryz.prog 12 #[f, .iface 195 (.pointer (some a))] W fun e w' => e = .returned (.bool true) ∧ Below W.heap.size W w'
theorem rp_ok (hb : OkB bs) (hl : bs.length ≤ 200) (ho : okN bs) (hz : decN (denS bs) ≠ 0) (hS : w.cell? ⟨0, 0, none⟩ = some (.iface 195 (.pointer (some a)))) :
    Calls Tryz.prog 25 #[.string (strB bs)] w fun e w' => ∃ s3 A3 n3 c3 D3 m3 e3, e = .returned (.tuple #[.agg #[.bool s3, .slice A3 n3 c3, .slice D3 m3 e3], .nilIface]) ∧ NQ w' s3 (.slice A3 n3 c3) (.slice D3 m3 e3) (ratV bs) 202 ∧ Below w.heap.size w w' :=
  rparse_yes hb hl (by omega) ho.1 ho.2 hS hz
theorem rp_rng (hb : OkB bs) (hl : bs.length ≤ 200) (ho : okN bs) (hz : decN (denS bs) = 0) (hS : w.cell? ⟨0, 0, none⟩ = some (.iface 195 (.pointer (some a)))) (hR : w.cell? ⟨1, 0, none⟩ = some (.iface 195 (.pointer (some a')))) :
    Calls Tryz.prog 25 #[.string (strB bs)] w fun e w' => ∃ st : ByteArray, ∃ s3 A3 n3 c3 D3 m3 e3, e = .returned (.tuple #[.agg #[.bool s3, .slice A3 n3 c3, .slice D3 m3 e3], .iface 103 (.agg #[.string st, .iface 195 (.pointer (some a'))])]) ∧ Below w.heap.size w w' := by
  refine (rpar_nul hb hl ho.1 ho.2 hS hR hz).mono ?_
  rintro e w' ⟨st, s3, A3, n3, c3, D3, m3, e3, h1, _, h2⟩
  exact ⟨st, s3, A3, n3, c3, D3, m3, e3, h1, h2⟩
theorem rp_syn (hb : OkB bs) (hl : bs.length ≤ 200) (hn : ¬ okN bs) (hS : w.cell? ⟨0, 0, none⟩ = some (.iface 195 (.pointer (some a)))) :
    Calls Tryz.prog 25 #[.string (strB bs)] w fun e w' => ∃ st : ByteArray, ∃ s3 A3 n3 c3 D3 m3 e3, e = .returned (.tuple #[.agg #[.bool s3, .slice A3 n3 c3, .slice D3 m3 e3], .iface 103 (.agg #[.string st, .iface 195 (.pointer (some a))])]) ∧ Below w.heap.size w w' := by
  refine (rpar_no hb hl hn hS).mono ?_
  rintro e w' ⟨st, s3, A3, n3, c3, D3, m3, e3, h1, _, h2⟩
  exact ⟨st, s3, A3, n3, c3, D3, m3, e3, h1, h2⟩
theorem rp_any (hb : OkB bs) (hl : bs.length ≤ 200) (hS : w.cell? ⟨0, 0, none⟩ = some (.iface 195 (.pointer (some a)))) (hR : w.cell? ⟨1, 0, none⟩ = some (.iface 195 (.pointer (some a')))) :
    Calls Tryz.prog 25 #[.string (strB bs)] w fun e w' => ∃ s3 A3 n3 c3 D3 m3 e3 u, e = .returned (.tuple #[.agg #[.bool s3, .slice A3 n3 c3, .slice D3 m3 e3], u]) ∧ Below w.heap.size w w' := by
  by_cases ho : okN bs
  · by_cases hz : decN (denS bs) = 0
    · refine (rp_rng hb hl ho hz hS hR).mono ?_
      rintro e w' ⟨st, s3, A3, n3, c3, D3, m3, e3, h1, h2⟩
      exact ⟨s3, A3, n3, c3, D3, m3, e3, _, h1, h2⟩
    · refine (rp_ok hb hl ho hz hS).mono ?_
      rintro e w' ⟨s3, A3, n3, c3, D3, m3, e3, h1, _, h2⟩
      exact ⟨s3, A3, n3, c3, D3, m3, e3, _, h1, h2⟩
  · refine (rp_syn hb hl ho hS).mono ?_
    rintro e w' ⟨st, s3, A3, n3, c3, D3, m3, e3, h1, h2⟩
    exact ⟨s3, A3, n3, c3, D3, m3, e3, _, h1, h2⟩
theorem isE_self (a : Addr) : IsE (.iface 195 (.pointer (some a))) a := fun W => is_same_b a W
theorem isE_part (st : ByteArray) (a : Addr) : IsE (.iface 103 (.agg #[.string st, .iface 195 (.pointer (some a))])) a := fun W => is_part st a W
/-- What point.Parse answers. -/
def PtRes (bs : List Nat) (a a' : Addr) (w : World) (f : Value) (s : Bool) (v u : Value) (s' : Bool) (v' u' : Value) : Prop :=
  (coordOk bs = false ∧ IsE f a) ∨ (coordOk bs = true ∧ (¬ okN (coordX bs) ∨ ¬ okN (coordY bs)) ∧ IsE f a ∧ ZR w s v u ∧ ZR w s' v' u') ∨
  (coordOk bs = true ∧ okN (coordX bs) ∧ okN (coordY bs) ∧ (decN (denS (coordX bs)) = 0 ∨ decN (denS (coordY bs)) = 0) ∧ IsE f a' ∧ ZR w s v u ∧ ZR w s' v' u') ∨
  (coordOk bs = true ∧ okN (coordX bs) ∧ okN (coordY bs) ∧ decN (denS (coordX bs)) ≠ 0 ∧ decN (denS (coordY bs)) ≠ 0 ∧ f = .nilIface ∧ NQ w s v u (ratV (coordX bs)) 202 ∧ NQ w s' v' u' (ratV (coordY bs)) 202)
theorem zr_z (w : World) : ZR w false (.slice none 0 0) (.slice none 0 0) := ⟨rfl, raw_nil _ _, raw_nil _ _⟩
set_option maxHeartbeats 1600000 in
theorem pt_parse (hb : OkB bs) (hl : bs.length ≤ 200) (hS : w.cell? ⟨0, 0, none⟩ = some (.iface 195 (.pointer (some a)))) (hR : w.cell? ⟨1, 0, none⟩ = some (.iface 195 (.pointer (some a')))) (hne : a' ≠ a) {ca cb : Array Value} {ta tb : TypeId} (ha : w.heap[a.block]? = some (.cells ca ta (0, 0))) (hb' : w.heap[a'.block]? = some (.cells cb tb (0, 0))) :
    Calls Tryz.prog 7 #[.string (strB bs)] w fun e w' => ∃ s10 A10 n10 c10 D10 m10 e10 s11 A11 n11 c11 D11 m11 e11 f, e = .returned (.tuple #[.agg #[.bool s10, .slice A10 n10 c10, .slice D10 m10 e10, .bool s11, .slice A11 n11 c11, .slice D11 m11 e11], f]) ∧ PtRes bs a a' w' f s10 (.slice A10 n10 c10) (.slice D10 m10 e10) s11 (.slice A11 n11 c11) (.slice D11 m11 e11) ∧ Below w.heap.size w w' := by
  have hc := coord_ok hb
  have blkS := World.block_lt_of_cell? _ _ hS
  have blkR := World.block_lt_of_cell? _ _ hR
  have kS := fun (W : World) (h : Below w.heap.size w W) => (h.cell (p := ⟨0, 0, none⟩) blkS).trans hS
  have kR := fun (W : World) (h : Below w.heap.size w W) => (h.cell (p := ⟨1, 0, none⟩) blkR).trans hR
  have hlx : (coordX bs).length ≤ 200 := by have := hc.1.2; omega
  have hly : (coordY bs).length ≤ 200 := by have := hc.2.2; omega
  have l1 : bs.length ≤ 1000 := by omega
  cases ho : coordOk bs
  · refine (pparse_no hb l1 hS ho (fun W h => rp_any hc.1.1 hlx (kS W h) (kR W h)) (fun W h => rp_any hc.2.1 hly (kS W h) (kR W h))).mono ?_
    rintro e w' ⟨h1, h2⟩
    exact ⟨_, _, _, _, _, _, _, _, _, _, _, _, _, _, _, h1, .inl ⟨ho, isE_self a⟩, h2⟩
  · by_cases hy : okN (coordY bs)
    · by_cases hx : okN (coordX bs)
      · by_cases zx : decN (denS (coordX bs)) = 0
        · by_cases zy : decN (denS (coordY bs)) = 0
          · refine (pparse_rr hb l1 hS ho (fun W h => rp_rng hc.1.1 hlx hx zx (kS W h) (kR W h)) (fun W h => rp_rng hc.2.1 hly hy zy (kS W h) (kR W h)) hne ha hb').mono ?_
            rintro e w' ⟨st, h1, h2⟩
            exact ⟨_, _, _, _, _, _, _, _, _, _, _, _, _, _, _, h1, .inr (.inr (.inl ⟨ho, hx, hy, .inl zx, isE_part st a', zr_z _, zr_z _⟩)), h2⟩
          · refine (pparse_rn (L0 := 202) hb l1 hS ho (fun W h => rp_rng hc.1.1 hlx hx zx (kS W h) (kR W h)) (fun W h => rp_ok hc.2.1 hly hy zy (kS W h))).mono ?_
            rintro e w' ⟨st, h1, h2⟩
            exact ⟨_, _, _, _, _, _, _, _, _, _, _, _, _, _, _, h1, .inr (.inr (.inl ⟨ho, hx, hy, .inl zx, isE_part st a', zr_z _, zr_z _⟩)), h2⟩
        · by_cases zy : decN (denS (coordY bs)) = 0
          · refine (pparse_nr (L := 202) hb l1 hS ho (fun W h => rp_ok hc.1.1 hlx hx zx (kS W h)) (fun W h => rp_rng hc.2.1 hly hy zy (kS W h) (kR W h)) hne ha hb').mono ?_
            rintro e w' ⟨st, h1, h2⟩
            exact ⟨_, _, _, _, _, _, _, _, _, _, _, _, _, _, _, h1, .inr (.inr (.inl ⟨ho, hx, hy, .inr zy, isE_part st a', zr_z _, zr_z _⟩)), h2⟩
          · refine (pparse_yes (L := 202) (L0 := 202) hb l1 hS ho (fun W h => rp_ok hc.1.1 hlx hx zx (kS W h)) (fun W h => rp_ok hc.2.1 hly hy zy (kS W h))).mono ?_
            rintro e w' ⟨s0, A0, n0, c0, D0, m0, e0, s1, A1, n1, c1, D1, m1, e1, h1, g0, g1, h2⟩
            exact ⟨_, _, _, _, _, _, _, _, _, _, _, _, _, _, _, h1, .inr (.inr (.inr ⟨ho, hx, hy, zx, zy, rfl, g0, g1⟩)), h2⟩
      · have fin : ∀ {e : Ending} {w' : World}, (∃ st : ByteArray, e = .returned (.tuple #[.agg #[.bool false, .slice none 0 0, .slice none 0 0, .bool false, .slice none 0 0, .slice none 0 0], .iface 103 (.agg #[.string st, .iface 195 (.pointer (some a))])]) ∧ Below w.heap.size w w') → ∃ s10 A10 n10 c10 D10 m10 e10 s11 A11 n11 c11 D11 m11 e11 f, e = .returned (.tuple #[.agg #[.bool s10, .slice A10 n10 c10, .slice D10 m10 e10, .bool s11, .slice A11 n11 c11, .slice D11 m11 e11], f]) ∧ PtRes bs a a' w' f s10 (.slice A10 n10 c10) (.slice D10 m10 e10) s11 (.slice A11 n11 c11) (.slice D11 m11 e11) ∧ Below w.heap.size w w' := by
          rintro e w' ⟨st, h1, h2⟩
          exact ⟨_, _, _, _, _, _, _, _, _, _, _, _, _, _, _, h1, .inr (.inl ⟨ho, .inl hx, isE_part st a, zr_z _, zr_z _⟩), h2⟩
        by_cases zy : decN (denS (coordY bs)) = 0
        · exact (pparse_sr hb l1 hS ho (fun W h => rp_syn hc.1.1 hlx hx (kS W h)) (fun W h => rp_rng hc.2.1 hly hy zy (kS W h) (kR W h)) hne ha hb').mono fun e w' ⟨st, h1, h2⟩ => fin ⟨st, h1, h2⟩
        · exact (pparse_sn (L0 := 202) hb l1 hS ho (fun W h => rp_syn hc.1.1 hlx hx (kS W h)) (fun W h => rp_ok hc.2.1 hly hy zy (kS W h))).mono fun e w' ⟨st, h1, h2⟩ => fin ⟨st, h1, h2⟩
    · refine (pparse_y hb l1 hS ho (fun W h => rp_any hc.1.1 hlx (kS W h) (kR W h)) (fun W h => rp_syn hc.2.1 hly hy (kS W h))).mono ?_
      rintro e w' ⟨h1, h2⟩
      exact ⟨_, _, _, _, _, _, _, _, _, _, _, _, _, _, _, h1, .inr (.inl ⟨ho, .inr hy, isE_self a, zr_z _, zr_z _⟩), h2⟩
theorem ratB_ok (q : Rat) : OkB (ratB q) := by
  unfold ratB
  split
  · exact itoa_ok _
  · exact okB_append.2 ⟨itoa_ok _, okB_cons.2 ⟨by omega, decT_ok _⟩⟩
/-- Parse of Format. -/
theorem pback_v (hn : q0.num.natAbs < Bs 6 ∧ q0.den < Bs 6) (hd : q1.num.natAbs < Bs 6 ∧ q1.den < Bs 6) (hS : w.cell? ⟨0, 0, none⟩ = some (.iface 195 (.pointer (some a)))) :
    Calls Tryz.prog 7 #[.string (strB (ptB q0 q1))] w fun e w' => ∃ s0 A0 n0 c0 D0 m0 e0 s1 A1 n1 c1 D1 m1 e1, e = .returned (.tuple #[.agg #[.bool s0, .slice A0 n0 c0, .slice D0 m0 e0, .bool s1, .slice A1 n1 c1, .slice D1 m1 e1], .nilIface]) ∧ NQ w' s0 (.slice A0 n0 c0) (.slice D0 m0 e0) q0 126 ∧ NQ w' s1 (.slice A1 n1 c1) (.slice D1 m1 e1) q1 126 ∧ Below w.heap.size w w' := by
  have hc := coord_pt q0 q1
  have blkS := World.block_lt_of_cell? _ _ hS
  have kS := fun (W : World) (h : Below w.heap.size w W) => (h.cell (p := ⟨0, 0, none⟩) blkS).trans hS
  have l0 := rat_len hn.1 hn.2
  have l1 := rat_len hd.1 hd.2
  have hl : (ptB q0 q1).length ≤ 1000 := by unfold ptB; simp only [List.length_cons, List.length_append, List.length_nil]; omega
  have hok : OkB (ptB q0 q1) := okB_cons.2 ⟨by omega, okB_append.2 ⟨ratB_ok _, okB_cons.2 ⟨by omega, okB_append.2 ⟨ratB_ok _, okB_cons.2 ⟨by omega, fun _ h => (by cases h)⟩⟩⟩⟩⟩
  refine pparse_yes (L := 126) (L0 := 126) hok hl hS hc.2.2 (fun W h => ?_) (fun W h => ?_)
  · rw [hc.1]; exact rback_v (L := 6) hn.1 hn.2 (by omega) (kS W h)
  · rw [hc.2.1]; exact rback_v (L := 6) hd.1 hd.2 (by omega) (kS W h)
/-- What the reference's reader answers. -/
def RdRes (bs : List Nat) (w : World) (k : Int) (s : Bool) (v u : Value) : Prop :=
  (¬ okN bs → k = 1) ∧ (okN bs → decN (denS bs) = 0 → k = 3) ∧ (okN bs → decN (denS bs) ≠ 0 → k = 0 ∧ PQ w s v u (ratV bs) 200)
theorem read_any (hb : OkB bs) (hl : bs.length ≤ 200) :
    Calls Tryz.prog 13 #[.string (strB bs)] w fun e w' => ∃ s4 A4 n4 c4 D4 m4 e4 k, e = .returned (.tuple #[.agg #[.bool s4, .slice A4 n4 c4, .slice D4 m4 e4], .int .i64 k]) ∧ RdRes bs w' k s4 (.slice A4 n4 c4) (.slice D4 m4 e4) ∧ Below w.heap.size w w' := by
  by_cases ho : okN bs
  · by_cases hz : decN (denS bs) = 0
    · refine (readq_nul hb hl ho.1 ho.2 hz).mono ?_
      rintro e w' ⟨s4, A4, n4, c4, D4, m4, e4, h1, h2⟩
      exact ⟨_, _, _, _, _, _, _, _, h1, ⟨fun h => absurd ho h, fun _ _ => rfl, fun _ h => absurd hz h⟩, h2⟩
    · refine (readq_ok hb hl ho.1 ho.2 hz).mono ?_
      rintro e w' ⟨s4, A4, n4, c4, D4, m4, e4, h1, h3, h2⟩
      exact ⟨_, _, _, _, _, _, _, _, h1, ⟨fun h => absurd ho h, fun _ h => absurd h hz, fun _ _ => ⟨rfl, h3⟩⟩, h2⟩
  · refine (readq_no hb hl ho).mono ?_
    rintro e w' ⟨s4, A4, n4, c4, D4, m4, e4, h1, h2⟩
    exact ⟨_, _, _, _, _, _, _, _, h1, ⟨fun _ => rfl, fun h => absurd h ho, fun h => absurd h ho⟩, h2⟩
theorem PtRes.below {f : Value} {s s' : Bool} {v u v' u' : Value} {W : World} (h : PtRes bs a a' w f s v u s' v' u') (hb : Below w.heap.size w W) : PtRes bs a a' W f s v u s' v' u' := by
  rcases h with ⟨h1, h2⟩ | ⟨h1, h2, h3, h4, h5⟩ | ⟨h1, h2, h3, h4, h5, h6, h7⟩ | ⟨h1, h2, h3, h4, h5, h6, h7, h8⟩
  · exact .inl ⟨h1, h2⟩
  · exact .inr (.inl ⟨h1, h2, h3, h4.below hb, h5.below hb⟩)
  · exact .inr (.inr (.inl ⟨h1, h2, h3, h4, h5, h6.below hb, h7.below hb⟩))
  · exact .inr (.inr (.inr ⟨h1, h2, h3, h4, h5, h6, h7.below hb, h8.below hb⟩))
theorem RdRes.below {s : Bool} {v u : Value} {W : World} (h : RdRes bs w k s v u) (hb : Below w.heap.size w W) : RdRes bs W k s v u :=
  ⟨h.1, h.2.1, fun h1 h2 => ⟨(h.2.2 h1 h2).1, (h.2.2 h1 h2).2.below hb⟩⟩
theorem RdRes.ne1 {s : Bool} {v u : Value} (h : RdRes bs w k s v u) (ho : okN bs) : ((k : Int) == 1) = false := by
  rw [beq_eq_false_iff_ne]
  by_cases hz : decN (denS bs) = 0
  · rw [h.2.1 ho hz]; decide
  · rw [(h.2.2 ho hz).1]; decide
set_option maxRecDepth 100000 in
set_option maxHeartbeats 4000000 in
theorem samep_z (h : ZR w s0 (.slice A0 n0 c0) (.slice D0 m0 e0)) (h' : ZR w s1 (.slice A1 n1 c1) (.slice D1 m1 e1)) :
    Calls Tryz.prog 14 #[.agg #[.bool s0, .slice A0 n0 c0, .slice D0 m0 e0, .bool s1, .slice A1 n1 c1, .slice D1 m1 e1], .agg #[.bool false, .slice none 0 0, .slice none 0 0, .bool false, .slice none 0 0, .slice none 0 0]] w fun e w' => e = .returned (.bool true) ∧ Below w.heap.size w w' := by
  go_enter Tryz.func14, Tryz.ntmps14
  go_wp2_with fail
  obtain ⟨W0, hW, b0, b1, hbW, hszW0⟩ := boxes2 w #[.bool s0, .slice A0 n0 c0, .slice D0 m0 e0, .bool s1, .slice A1 n1 c1, .slice D1 m1 e1] #[.bool false, .slice none 0 0, .slice none 0 0, .bool false, .slice none 0 0, .slice none 0 0] 31 31
  rw [hW]
  clear hW
  replace h := h.below hbW
  replace h' := h'.below hbW
  have H0 := hbW
  clear hbW
  have cb00 := b0.cell 0 _ rfl
  have cb01 := b0.cell 1 _ rfl
  have cb02 := b0.cell 2 _ rfl
  have cb03 := b0.cell 3 _ rfl
  have cb04 := b0.cell 4 _ rfl
  have cb05 := b0.cell 5 _ rfl
  have cb10 := b1.cell 0 _ rfl
  have cb11 := b1.cell 1 _ rfl
  have cb12 := b1.cell 2 _ rfl
  have cb13 := b1.cell 3 _ rfl
  have cb14 := b1.cell 4 _ rfl
  have cb15 := b1.cell 5 _ rfl
  go_wp2_with fail
  clear cb00 cb01 cb02 cb03 cb04 cb05 cb10 cb11 cb12 cb13 cb14 cb15
  refine (sameq_z h).mono ?_
  rintro e w1 ⟨rfl, hb⟩
  replace h := h.below hb
  replace h' := h'.below hb
  replace b0 := b0.below hb
  replace b1 := b1.below hb
  replace H0 := H0.trans (hb.mono H0.size)
  clear hb
  have cb00 := b0.cell 0 _ rfl
  have cb01 := b0.cell 1 _ rfl
  have cb02 := b0.cell 2 _ rfl
  have cb03 := b0.cell 3 _ rfl
  have cb04 := b0.cell 4 _ rfl
  have cb05 := b0.cell 5 _ rfl
  have cb10 := b1.cell 0 _ rfl
  have cb11 := b1.cell 1 _ rfl
  have cb12 := b1.cell 2 _ rfl
  have cb13 := b1.cell 3 _ rfl
  have cb14 := b1.cell 4 _ rfl
  have cb15 := b1.cell 5 _ rfl
  go_wp2_with fail
  clear cb00 cb01 cb02 cb03 cb04 cb05 cb10 cb11 cb12 cb13 cb14 cb15
  refine (sameq_z h').mono ?_
  rintro e w2 ⟨rfl, hb⟩
  replace h := h.below hb
  replace h' := h'.below hb
  replace b0 := b0.below hb
  replace b1 := b1.below hb
  replace H0 := H0.trans (hb.mono H0.size)
  clear hb
  go_wp2_with fail
  go_returns
  exact ⟨rfl, H0⟩
end
end Go.Proofs.YtancgkmkbgkncaaGreatDoor
