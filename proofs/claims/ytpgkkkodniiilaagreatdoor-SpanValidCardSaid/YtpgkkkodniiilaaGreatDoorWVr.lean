/-
  Lists of spans as they came in: what lies in memory.
-/
import Derived.Test.YtpgkkkodniiilaaGreatDoorWVa
import Derived.Test.YtpgkkkodniiilaaGreatDoorWVe
import Derived.IntWalk
namespace Go.Proofs.YtpgkkkodniiilaaGreatDoor
open Go.RowKit

section
variable {f0 h0 f1 h1 f2 h2 f3 h3 f4 h4 f5 h5 f6 h6 f7 h7 f8 h8 f9 h9 f10 h10 f11 h11 : Bool} {A0 A1 A2 A3 A4 A5 A6 A7 A8 A9 A10 A11 A12 A13 A14 A15 A16 A17 A18 A19 A20 A21 A22 A23 D0 D1 D2 D3 D4 D5 D6 D7 D8 D9 D10 D11 D12 D13 D14 D15 D16 D17 D18 D19 D20 D21 D22 D23 : Option Addr} {n0 n1 n2 n3 n4 n5 n6 n7 n8 n9 n10 n11 n12 n13 n14 n15 n16 n17 n18 n19 n20 n21 n22 n23 c0 c1 c2 c3 c4 c5 c6 c7 c8 c9 c10 c11 c12 c13 c14 c15 c16 c17 c18 c19 c20 c21 c22 c23 m0 m1 m2 m3 m4 m5 m6 m7 m8 m9 m10 m11 m12 m13 m14 m15 m16 m17 m18 m19 m20 m21 m22 m23 e0 e1 e2 e3 e4 e5 e6 e7 e8 e9 e10 e11 e12 e13 e14 e15 e16 e17 e18 e19 e20 e21 e22 e23 : Nat} {s0 s1 s2 s3 s4 s5 s6 s7 s8 s9 s10 s11 s12 s13 s14 s15 s16 s17 s18 s19 s20 s21 s22 s23 : Bool} {q0 q1 q2 q3 q4 q5 q6 q7 : Rat} {z0 z1 z2 z3 z4 z5 z6 z7 z8 z9 z10 z11 : Int} {L L0 L1 x y : Nat} {k : Int} {b : Bool} {w : World}
variable {o0 o1 o2 o3 : Option Rat} {l l' : List Sp}
/-- A span as it came in: the digits of its ends, and which are missing. -/
structure Rw where
  s : Bool
  a : List Nat
  b : List Nat
  t : Bool
  c : List Nat
  d : List Nat
  f : Bool
  h : Bool
def Rw.ok (r : Rw) : Bool := rwOk r.s r.a r.b r.t r.c r.d r.f r.h
def Rw.sp (r : Rw) : Sp := ⟨edO r.f (rq r.s r.a r.b), edO r.h (rq r.t r.c r.d)⟩
def Few (r : Rw) : Prop := r.a.length ≤ 4 ∧ r.b.length ≤ 4 ∧ r.c.length ≤ 4 ∧ r.d.length ≤ 4
def AllOk (l : List Rw) : Prop := ∀ r ∈ l, r.ok = true
def SetOk (l : List Rw) : Prop := AllOk l ∧ SepS (l.map Rw.sp)
/-- The cells of a span as it came in. -/
def RwE (w : World) (cs : List Value) (s : Rw) : Prop := ∃ (A0 : Option Addr), ∃ (n0 : Nat), ∃ (c0 : Nat), ∃ (D0 : Option Addr), ∃ (m0 : Nat), ∃ (e0 : Nat), ∃ (A1 : Option Addr), ∃ (n1 : Nat), ∃ (c1 : Nat), ∃ (D1 : Option Addr), ∃ (m1 : Nat), ∃ (e1 : Nat), cs = [.bool s.s, .slice A0 n0 c0, .slice D0 m0 e0, .bool s.t, .slice A1 n1 c1, .slice D1 m1 e1, .bool s.f, .bool s.h] ∧ Raw w (.slice A0 n0 c0) s.a ∧ Raw w (.slice D0 m0 e0) s.b ∧ Raw w (.slice A1 n1 c1) s.c ∧ Raw w (.slice D1 m1 e1) s.d
theorem firm_rwe (cs : List Value) (s : Rw) : Firm fun w => RwE w cs s :=
  Firm.ex fun _ => Firm.ex fun _ => Firm.ex fun _ => Firm.ex fun _ => Firm.ex fun _ => Firm.ex fun _ => Firm.ex fun _ => Firm.ex fun _ => Firm.ex fun _ => Firm.ex fun _ => Firm.ex fun _ => Firm.ex fun _ => (Firm.const _).and ((firm_raw _ _).and ((firm_raw _ _).and ((firm_raw _ _).and (firm_raw _ _))))
/-- A list of spans as it came in. -/
def RwS (w : World) (v : Value) (l : List Rw) : Prop := ∃ css, ReadR w 8 v css ∧ All2 (RwE w) css l
theorem RwS.below {w' : World} {v : Value} {l : List Rw} (h : RwS w v l) (hb : Below w.heap.size w w') : RwS w' v l := by
  obtain ⟨css, h1, h2⟩ := h
  exact ⟨css, h1.below hb, h2.mono fun a b r => (firm_rwe a b).below r hb⟩
theorem RwS.form {v : Value} {l : List Rw} (h : RwS w v l) : ∃ A c, v = .slice A l.length c ∧ l.length ≤ c ∧ c ≤ maxLen := by
  obtain ⟨css, h1, h2⟩ := h
  rw [← h2.len]; exact h1.form
theorem RwS.elem {A : Option Addr} {n c i : Nat} {l : List (Rw)} {s : Rw} (h : RwS w (.slice A n c) l) (hi : l[i]? = some s) : ∃ g o, ∃ (A0 : Option Addr), ∃ (n0 : Nat), ∃ (c0 : Nat), ∃ (D0 : Option Addr), ∃ (m0 : Nat), ∃ (e0 : Nat), ∃ (A1 : Option Addr), ∃ (n1 : Nat), ∃ (c1 : Nat), ∃ (D1 : Option Addr), ∃ (m1 : Nat), ∃ (e1 : Nat), A = some ⟨g, o, none⟩ ∧ w.cell? ⟨g, o + i * 8, none⟩ = some (.bool s.s) ∧ w.cell? ⟨g, o + i * 8 + 1, none⟩ = some (.slice A0 n0 c0) ∧ w.cell? ⟨g, o + i * 8 + 2, none⟩ = some (.slice D0 m0 e0) ∧ w.cell? ⟨g, o + i * 8 + 3, none⟩ = some (.bool s.t) ∧ w.cell? ⟨g, o + i * 8 + 4, none⟩ = some (.slice A1 n1 c1) ∧ w.cell? ⟨g, o + i * 8 + 5, none⟩ = some (.slice D1 m1 e1) ∧ w.cell? ⟨g, o + i * 8 + 6, none⟩ = some (.bool s.f) ∧ w.cell? ⟨g, o + i * 8 + 7, none⟩ = some (.bool s.h) ∧ Raw w (.slice A0 n0 c0) s.a ∧ Raw w (.slice D0 m0 e0) s.b ∧ Raw w (.slice A1 n1 c1) s.c ∧ Raw w (.slice D1 m1 e1) s.d := by
  obtain ⟨css, ⟨hk, A', c', e1, _, _, hr⟩, ha⟩ := h
  injection e1 with e1 e2 e3
  subst e1 e2 e3
  obtain ⟨cs, hcs, hE⟩ := ha.get hi
  obtain ⟨A0, n0, c0, D0, m0, e0, A1, n1, c1, D1, m1, e1, rfl, hE0, hE1, hE2, hE3⟩ := hE
  obtain ⟨g, o, e4, hcell⟩ := hr (by rintro rfl; cases hcs)
  have hc := fun j x hx => hcell i _ hcs j x hx
  refine ⟨g, o, A0, n0, c0, D0, m0, e0, A1, n1, c1, D1, m1, e1, e4, ?_, ?_, ?_, ?_, ?_, ?_, ?_, ?_, hE0, hE1, hE2, hE3⟩
  · exact hc 0 _ rfl
  · rw [Nat.add_assoc]; exact hc 1 _ rfl
  · rw [Nat.add_assoc]; exact hc 2 _ rfl
  · rw [Nat.add_assoc]; exact hc 3 _ rfl
  · rw [Nat.add_assoc]; exact hc 4 _ rfl
  · rw [Nat.add_assoc]; exact hc 5 _ rfl
  · rw [Nat.add_assoc]; exact hc 6 _ rfl
  · rw [Nat.add_assoc]; exact hc 7 _ rfl
/-- The cells of a span of an argument: one with short numbers, or one with a long one. -/
def AnE (w : World) (cs : List Value) (s : Option Rw) : Prop := ∃ (s0 : Bool), ∃ (A0 : Option Addr), ∃ (n0 : Nat), ∃ (c0 : Nat), ∃ (D0 : Option Addr), ∃ (m0 : Nat), ∃ (e0 : Nat), ∃ (s1 : Bool), ∃ (A1 : Option Addr), ∃ (n1 : Nat), ∃ (c1 : Nat), ∃ (D1 : Option Addr), ∃ (m1 : Nat), ∃ (e1 : Nat), ∃ (f0 : Bool), ∃ (h0 : Bool), cs = [.bool s0, .slice A0 n0 c0, .slice D0 m0 e0, .bool s1, .slice A1 n1 c1, .slice D1 m1 e1, .bool f0, .bool h0] ∧ ((s = none ∧ ¬ few4 n0 m0 n1 m1) ∨ (∃ da db dc de, s = some ⟨s0, da, db, s1, dc, de, f0, h0⟩ ∧ few4 n0 m0 n1 m1 ∧ Raw w (.slice A0 n0 c0) da ∧ Raw w (.slice D0 m0 e0) db ∧ Raw w (.slice A1 n1 c1) dc ∧ Raw w (.slice D1 m1 e1) de))
theorem firm_ane (cs : List Value) (s : Option Rw) : Firm fun w => AnE w cs s :=
  Firm.ex fun _ => Firm.ex fun _ => Firm.ex fun _ => Firm.ex fun _ => Firm.ex fun _ => Firm.ex fun _ => Firm.ex fun _ => Firm.ex fun _ => Firm.ex fun _ => Firm.ex fun _ => Firm.ex fun _ => Firm.ex fun _ => Firm.ex fun _ => Firm.ex fun _ => Firm.ex fun _ => Firm.ex fun _ => (Firm.const _).and (firm_or (Firm.const _) (Firm.ex fun _ => Firm.ex fun _ => Firm.ex fun _ => Firm.ex fun _ => (Firm.const _).and ((Firm.const _).and ((firm_raw _ _).and ((firm_raw _ _).and ((firm_raw _ _).and (firm_raw _ _)))))))
/-- An argument: a list of spans. -/
def AnS (w : World) (v : Value) (l : List (Option Rw)) : Prop := ∃ css, ReadR w 8 v css ∧ All2 (AnE w) css l
theorem AnS.below {w' : World} {v : Value} {l : List (Option Rw)} (h : AnS w v l) (hb : Below w.heap.size w w') : AnS w' v l := by
  obtain ⟨css, h1, h2⟩ := h
  exact ⟨css, h1.below hb, h2.mono fun a b r => (firm_ane a b).below r hb⟩
theorem AnS.form {v : Value} {l : List (Option Rw)} (h : AnS w v l) : ∃ A c, v = .slice A l.length c ∧ l.length ≤ c ∧ c ≤ maxLen := by
  obtain ⟨css, h1, h2⟩ := h
  rw [← h2.len]; exact h1.form
theorem AnS.elem {A : Option Addr} {n c i : Nat} {l : List (Option Rw)} {s : Option Rw} (h : AnS w (.slice A n c) l) (hi : l[i]? = some s) : ∃ g o, ∃ (s0 : Bool), ∃ (A0 : Option Addr), ∃ (n0 : Nat), ∃ (c0 : Nat), ∃ (D0 : Option Addr), ∃ (m0 : Nat), ∃ (e0 : Nat), ∃ (s1 : Bool), ∃ (A1 : Option Addr), ∃ (n1 : Nat), ∃ (c1 : Nat), ∃ (D1 : Option Addr), ∃ (m1 : Nat), ∃ (e1 : Nat), ∃ (f0 : Bool), ∃ (h0 : Bool), A = some ⟨g, o, none⟩ ∧ w.cell? ⟨g, o + i * 8, none⟩ = some (.bool s0) ∧ w.cell? ⟨g, o + i * 8 + 1, none⟩ = some (.slice A0 n0 c0) ∧ w.cell? ⟨g, o + i * 8 + 2, none⟩ = some (.slice D0 m0 e0) ∧ w.cell? ⟨g, o + i * 8 + 3, none⟩ = some (.bool s1) ∧ w.cell? ⟨g, o + i * 8 + 4, none⟩ = some (.slice A1 n1 c1) ∧ w.cell? ⟨g, o + i * 8 + 5, none⟩ = some (.slice D1 m1 e1) ∧ w.cell? ⟨g, o + i * 8 + 6, none⟩ = some (.bool f0) ∧ w.cell? ⟨g, o + i * 8 + 7, none⟩ = some (.bool h0) ∧ ((s = none ∧ ¬ few4 n0 m0 n1 m1) ∨ (∃ da db dc de, s = some ⟨s0, da, db, s1, dc, de, f0, h0⟩ ∧ few4 n0 m0 n1 m1 ∧ Raw w (.slice A0 n0 c0) da ∧ Raw w (.slice D0 m0 e0) db ∧ Raw w (.slice A1 n1 c1) dc ∧ Raw w (.slice D1 m1 e1) de)) := by
  obtain ⟨css, ⟨hk, A', c', e1, _, _, hr⟩, ha⟩ := h
  injection e1 with e1 e2 e3
  subst e1 e2 e3
  obtain ⟨cs, hcs, hE⟩ := ha.get hi
  obtain ⟨s0, A0, n0, c0, D0, m0, e0, s1, A1, n1, c1, D1, m1, e1, f0, h0, rfl, hE0⟩ := hE
  obtain ⟨g, o, e4, hcell⟩ := hr (by rintro rfl; cases hcs)
  have hc := fun j x hx => hcell i _ hcs j x hx
  refine ⟨g, o, s0, A0, n0, c0, D0, m0, e0, s1, A1, n1, c1, D1, m1, e1, f0, h0, e4, ?_, ?_, ?_, ?_, ?_, ?_, ?_, ?_, hE0⟩
  · exact hc 0 _ rfl
  · rw [Nat.add_assoc]; exact hc 1 _ rfl
  · rw [Nat.add_assoc]; exact hc 2 _ rfl
  · rw [Nat.add_assoc]; exact hc 3 _ rfl
  · rw [Nat.add_assoc]; exact hc 4 _ rfl
  · rw [Nat.add_assoc]; exact hc 5 _ rfl
  · rw [Nat.add_assoc]; exact hc 6 _ rfl
  · rw [Nat.add_assoc]; exact hc 7 _ rfl
end
end Go.Proofs.YtpgkkkodniiilaaGreatDoor
