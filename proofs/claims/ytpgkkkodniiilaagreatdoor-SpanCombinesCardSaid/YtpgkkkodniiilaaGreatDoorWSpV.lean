/-
  The reference's spans; Write, WriteAll.
-/
import Derived.Test.YtpgkkkodniiilaaGreatDoorWSq
import Derived.Test.YtpgkkkodniiilaaGreatDoorWSpU
import Derived.IntWalk
import Derived.Deep.Cut
namespace Go.Proofs.YtpgkkkodniiilaaGreatDoor
open Go.RowKit
section
variable {f0 h0 f1 h1 f2 h2 f3 h3 f4 h4 f5 h5 f6 h6 f7 h7 f8 h8 f9 h9 f10 h10 f11 h11 : Bool} {A0 A1 A2 A3 D0 D1 D2 D3 : Option Addr} {n0 n1 n2 n3 c0 c1 c2 c3 m0 m1 m2 m3 e0 e1 e2 e3 e4 : Nat} {s0 s1 s2 s3 : Bool} {q0 q1 q2 q3 q4 q5 q6 q7 : Rat} {z0 z1 z2 z3 z4 z5 z6 z7 z8 z9 z10 z11 : Int} {L L0 L1 x y : Nat} {k : Int} {b : Bool} {w : World}
variable {o0 o1 o2 o3 : Option Rat} {l l' : List Sp}
/-- An end of a span of the reference. -/
def EndP (w : World) (L : Nat) (s : Bool) (v u : Value) (no : Bool) (o : Option Rat) : Prop := (no = false ∧ ∃ q, o = some q ∧ PQ w s v u q L) ∨ (no = true ∧ o = none)
theorem firm_endp (L : Nat) (s : Bool) (v u : Value) (no : Bool) (o : Option Rat) : Firm fun w => EndP w L s v u no o :=
  firm_or ((Firm.const _).and (Firm.ex fun q => (Firm.const _).and (firm_pq s v u q L))) (Firm.const _)
theorem EndP.below {w' : World} {s : Bool} {v u : Value} {no : Bool} {o : Option Rat} (h : EndP w L s v u no o) (hb : Below w.heap.size w w') : EndP w' L s v u no o := (firm_endp L s v u no o).below h hb
theorem EndP.kept {w' : World} {s : Bool} {v u : Value} {no : Bool} {o : Option Rat} {g : Nat} {cs : Array Value} {t : TypeId} (h : EndP w L s v u no o) (hx : Box w g cs t) (hc : cs.all notInt = true) (hg : w.grownBy w' (some g)) : EndP w' L s v u no o := (firm_endp L s v u no o).kept h hx hc hg
theorem EndP.yes {s : Bool} {v u : Value} {no : Bool} {q : Rat} {o : Option Rat} (h : EndP w L s v u no o) (ho : o = some q) : no = false ∧ PQ w s v u q L := by
  rcases h with ⟨h1, q', h2, h3⟩ | ⟨_, h2⟩
  · rw [ho] at h2; injection h2 with h2; subst h2; exact ⟨h1, h3⟩
  · rw [ho] at h2; cases h2
theorem EndP.no {s : Bool} {v u : Value} {no : Bool} {o : Option Rat} (h : EndP w L s v u no o) (ho : o = none) : no = true := by
  rcases h with ⟨_, q, h2, _⟩ | ⟨h1, _⟩
  · rw [ho] at h2; cases h2
  · exact h1
/-- The cells of a span of the reference. -/
def SrE (w : World) (L : Nat) (cs : List Value) (s : Sp) : Prop := ∃ (s0 : Bool), ∃ (A0 : Option Addr), ∃ (n0 : Nat), ∃ (c0 : Nat), ∃ (D0 : Option Addr), ∃ (m0 : Nat), ∃ (e0 : Nat), ∃ (s1 : Bool), ∃ (A1 : Option Addr), ∃ (n1 : Nat), ∃ (c1 : Nat), ∃ (D1 : Option Addr), ∃ (m1 : Nat), ∃ (e1 : Nat), ∃ (f0 : Bool), ∃ (h0 : Bool), cs = [.bool s0, .slice A0 n0 c0, .slice D0 m0 e0, .bool s1, .slice A1 n1 c1, .slice D1 m1 e1, .bool f0, .bool h0] ∧ EndP w L s0 (.slice A0 n0 c0) (.slice D0 m0 e0) f0 s.lo ∧ EndP w L s1 (.slice A1 n1 c1) (.slice D1 m1 e1) h0 s.hi
theorem firm_sre (L : Nat) (cs : List Value) (s : Sp) : Firm fun w => SrE w L cs s :=
  Firm.ex fun _ => Firm.ex fun _ => Firm.ex fun _ => Firm.ex fun _ => Firm.ex fun _ => Firm.ex fun _ => Firm.ex fun _ => Firm.ex fun _ => Firm.ex fun _ => Firm.ex fun _ => Firm.ex fun _ => Firm.ex fun _ => Firm.ex fun _ => Firm.ex fun _ => Firm.ex fun _ => Firm.ex fun _ => (Firm.const _).and ((firm_endp _ _ _ _ _ _).and (firm_endp _ _ _ _ _ _))
/-- A list of spans of the reference in memory. -/
def SrS (w : World) (L : Nat) (v : Value) (l : List Sp) : Prop := ∃ css, ReadR w 8 v css ∧ All2 (SrE w L) css l
theorem SrS.below {w' : World} {v : Value} (h : SrS w L v l) (hb : Below w.heap.size w w') : SrS w' L v l := by
  obtain ⟨css, h1, h2⟩ := h
  exact ⟨css, h1.below hb, h2.mono fun a b r => (firm_sre L a b).below r hb⟩
theorem SrS.form {v : Value} (h : SrS w L v l) : ∃ A c, v = .slice A l.length c ∧ l.length ≤ c ∧ c ≤ maxLen := by
  obtain ⟨css, h1, h2⟩ := h
  rw [← h2.len]; exact h1.form
theorem info_span : (Tryz.prog.info? 32).map (·.size) = some 8 := by kernel_rfl
theorem ret_span {fn : Func} {p : Tmp} (h : fn.results = #[.cell p 32]) {tmps : Array Value} {w : World} {g : Nat} {a b c d e f x y : Value} {t : TypeId} (hp : tmps.getD p undef = .pointer (some ⟨g, 0, none⟩)) (hb : Box w g #[a, b, c, d, e, f, x, y] t) :
    (results fn tmps).run Tryz.prog w = .ok (.agg #[a, b, c, d, e, f, x, y]) w :=
  results_cell_row h tmps w g t #[a, b, c, d, e, f, x, y] (0, 0) _ hp hb Tryz.underlying32 rfl info_span
theorem SrS.elem {A : Option Addr} {n c i : Nat} {l : List (Sp)} {s : Sp} (h : SrS w L (.slice A n c) l) (hi : l[i]? = some s) : ∃ g o, ∃ (s0 : Bool), ∃ (A0 : Option Addr), ∃ (n0 : Nat), ∃ (c0 : Nat), ∃ (D0 : Option Addr), ∃ (m0 : Nat), ∃ (e0 : Nat), ∃ (s1 : Bool), ∃ (A1 : Option Addr), ∃ (n1 : Nat), ∃ (c1 : Nat), ∃ (D1 : Option Addr), ∃ (m1 : Nat), ∃ (e1 : Nat), ∃ (f0 : Bool), ∃ (h0 : Bool), A = some ⟨g, o, none⟩ ∧ w.cell? ⟨g, o + i * 8, none⟩ = some (.bool s0) ∧ w.cell? ⟨g, o + i * 8 + 1, none⟩ = some (.slice A0 n0 c0) ∧ w.cell? ⟨g, o + i * 8 + 2, none⟩ = some (.slice D0 m0 e0) ∧ w.cell? ⟨g, o + i * 8 + 3, none⟩ = some (.bool s1) ∧ w.cell? ⟨g, o + i * 8 + 4, none⟩ = some (.slice A1 n1 c1) ∧ w.cell? ⟨g, o + i * 8 + 5, none⟩ = some (.slice D1 m1 e1) ∧ w.cell? ⟨g, o + i * 8 + 6, none⟩ = some (.bool f0) ∧ w.cell? ⟨g, o + i * 8 + 7, none⟩ = some (.bool h0) ∧ EndP w L s0 (.slice A0 n0 c0) (.slice D0 m0 e0) f0 s.lo ∧ EndP w L s1 (.slice A1 n1 c1) (.slice D1 m1 e1) h0 s.hi := by
  obtain ⟨css, ⟨hk, A', c', e1, _, _, hr⟩, ha⟩ := h
  injection e1 with e1 e2 e3
  subst e1 e2 e3
  obtain ⟨cs, hcs, hE⟩ := ha.get hi
  obtain ⟨s0, A0, n0, c0, D0, m0, e0, s1, A1, n1, c1, D1, m1, e1, f0, h0, rfl, hE0, hE1⟩ := hE
  obtain ⟨g, o, e4, hcell⟩ := hr (by rintro rfl; cases hcs)
  have hc := fun j x hx => hcell i _ hcs j x hx
  refine ⟨g, o, s0, A0, n0, c0, D0, m0, e0, s1, A1, n1, c1, D1, m1, e1, f0, h0, e4, ?_, ?_, ?_, ?_, ?_, ?_, ?_, ?_, hE0, hE1⟩
  · exact hc 0 _ rfl
  · rw [Nat.add_assoc]; exact hc 1 _ rfl
  · rw [Nat.add_assoc]; exact hc 2 _ rfl
  · rw [Nat.add_assoc]; exact hc 3 _ rfl
  · rw [Nat.add_assoc]; exact hc 4 _ rfl
  · rw [Nat.add_assoc]; exact hc 5 _ rfl
  · rw [Nat.add_assoc]; exact hc 6 _ rfl
  · rw [Nat.add_assoc]; exact hc 7 _ rfl
set_option maxRecDepth 100000 in
set_option maxHeartbeats 4000000 in
theorem write_v (x0 : EndP w L s0 (.slice A0 n0 c0) (.slice D0 m0 e0) f0 o0) (x1 : EndP w L s1 (.slice A1 n1 c1) (.slice D1 m1 e1) h0 o1) (hL : L ≤ 1000) :
    Calls Tryz.prog 62 #[.agg #[.bool s0, .slice A0 n0 c0, .slice D0 m0 e0, .bool s1, .slice A1 n1 c1, .slice D1 m1 e1, .bool f0, .bool h0]] w fun e w' => ∃ (s2 : Bool), ∃ (A2 : Option Addr), ∃ (n2 : Nat), ∃ (c2 : Nat), ∃ (D2 : Option Addr), ∃ (m2 : Nat), ∃ (e2 : Nat), ∃ (s3 : Bool), ∃ (A3 : Option Addr), ∃ (n3 : Nat), ∃ (c3 : Nat), ∃ (D3 : Option Addr), ∃ (m3 : Nat), ∃ (e3 : Nat), ∃ (f1 : Bool), ∃ (h1 : Bool), e = .returned (.agg #[.bool s2, .slice A2 n2 c2, .slice D2 m2 e2, .bool s3, .slice A3 n3 c3, .slice D3 m3 e3, .bool f1, .bool h1]) ∧ EndV w' (max L 1) s2 (.slice A2 n2 c2) (.slice D2 m2 e2) f1 o0 ∧ EndV w' (max L 1) s3 (.slice A3 n3 c3) (.slice D3 m3 e3) h1 o1 ∧ Below w.heap.size w w' := by
  rcases o0 with _ | p <;> rcases o1 with _ | q
  · skip
    obtain rfl := x0.no rfl
    obtain rfl := x1.no rfl
    clear x0 x1
    go_enter Tryz.func62, Tryz.ntmps62
    go_upto_region 1 with fail
    obtain ⟨W0, hW, b1, b2, hbW, hszW0⟩ := boxes2 w #[.bool s0, .slice A0 n0 c0, .slice D0 m0 e0, .bool s1, .slice A1 n1 c1, .slice D1 m1 e1, .bool true, .bool true] #[.bool false, .slice none 0 0, .slice none 0 0, .bool false, .slice none 0 0, .slice none 0 0, .bool false, .bool false] 39 32
    rw [hW]
    clear hW
    have H0 := hbW
    clear hbW
    obtain ⟨cb10, cb11, cb12, cb13, cb14, cb15, cb16, cb17⟩ := b1.cells8
    go_upto_region 2 with fail
    clear cb10 cb11 cb12 cb13 cb14 cb15 cb16 cb17
    have lb1_1 := b1.lt
    have lb2_1 := b2.lt
    obtain ⟨W1, hW, b3, hbW, hszW1⟩ := boxes1 W0 #[.bool false, .slice none 0 0, .slice none 0 0, .bool false, .slice none 0 0, .slice none 0 0, .bool true, .bool true] 32
    rw [hW]
    clear hW
    replace b1 := b1.below hbW
    replace b2 := b2.below hbW
    replace H0 := H0.trans (hbW.mono H0.size)
    clear hbW
    rw [hszW0] at b3
    obtain ⟨cb10, cb11, cb12, cb13, cb14, cb15, cb16, cb17⟩ := b1.cells8
    go_upto_region 4 with fail
    clear cb10 cb11 cb12 cb13 cb14 cb15 cb16 cb17
    obtain ⟨cb10, cb11, cb12, cb13, cb14, cb15, cb16, cb17⟩ := b1.cells8
    go_upto_region 6 with fail
    clear cb10 cb11 cb12 cb13 cb14 cb15 cb16 cb17
    obtain ⟨cb30, cb31, cb32, cb33, cb34, cb35, cb36, cb37⟩ := b3.cells8
    clear cb30 cb31 cb32 cb33 cb34 cb35 cb36 cb37
    obtain ⟨cb30, cb31, cb32, cb33, cb34, cb35, cb36, cb37⟩ := b3.cells8
    obtain ⟨cb20, yb20, cb21, yb21, cb22, yb22, cb23, yb23, cb24, yb24, cb25, yb25, cb26, yb26, cb27, yb27⟩ := b2.cf8
    go_wp2_with fail
    clear cb30 cb31 cb32 cb33 cb34 cb35 cb36 cb37 cb20 yb20 cb21 yb21 cb22 yb22 cb23 yb23 cb24 yb24 cb25 yb25 cb26 yb26 cb27 yb27
    have hg : World.grownBy W1 ((((((((W1.setCell ⟨w.heap.size + 1, 0, none⟩ (.bool false)).setCell ⟨w.heap.size + 1, 1, none⟩ (.slice none 0 0)).setCell ⟨w.heap.size + 1, 2, none⟩ (.slice none 0 0)).setCell ⟨w.heap.size + 1, 3, none⟩ (.bool false)).setCell ⟨w.heap.size + 1, 4, none⟩ (.slice none 0 0)).setCell ⟨w.heap.size + 1, 5, none⟩ (.slice none 0 0)).setCell ⟨w.heap.size + 1, 6, none⟩ (.bool true)).setCell ⟨w.heap.size + 1, 7, none⟩ (.bool true)) (some (w.heap.size + 1)) := only_trans (only_trans (only_trans (only_trans (only_trans (only_trans (only_trans (only_setCell _ ⟨w.heap.size + 1, 0, none⟩ (.bool false)) (only_setCell _ ⟨w.heap.size + 1, 1, none⟩ (.slice none 0 0))) (only_setCell _ ⟨w.heap.size + 1, 2, none⟩ (.slice none 0 0))) (only_setCell _ ⟨w.heap.size + 1, 3, none⟩ (.bool false))) (only_setCell _ ⟨w.heap.size + 1, 4, none⟩ (.slice none 0 0))) (only_setCell _ ⟨w.heap.size + 1, 5, none⟩ (.slice none 0 0))) (only_setCell _ ⟨w.heap.size + 1, 6, none⟩ (.bool true))) (only_setCell _ ⟨w.heap.size + 1, 7, none⟩ (.bool true))
    have hB : Box ((((((((W1.setCell ⟨w.heap.size + 1, 0, none⟩ (.bool false)).setCell ⟨w.heap.size + 1, 1, none⟩ (.slice none 0 0)).setCell ⟨w.heap.size + 1, 2, none⟩ (.slice none 0 0)).setCell ⟨w.heap.size + 1, 3, none⟩ (.bool false)).setCell ⟨w.heap.size + 1, 4, none⟩ (.slice none 0 0)).setCell ⟨w.heap.size + 1, 5, none⟩ (.slice none 0 0)).setCell ⟨w.heap.size + 1, 6, none⟩ (.bool true)).setCell ⟨w.heap.size + 1, 7, none⟩ (.bool true)) (w.heap.size + 1) #[.bool false, .slice none 0 0, .slice none 0 0, .bool false, .slice none 0 0, .slice none 0 0, .bool true, .bool true] 32 := (Box.step (Box.step (Box.step (Box.step (Box.step (Box.step (Box.step (Box.step b2 0 (.bool false)) 1 (.slice none 0 0)) 2 (.slice none 0 0)) 3 (.bool false)) 4 (.slice none 0 0)) 5 (.slice none 0 0)) 6 (.bool true)) 7 (.bool true))
    generalize hX : ((((((((W1.setCell ⟨w.heap.size + 1, 0, none⟩ (.bool false)).setCell ⟨w.heap.size + 1, 1, none⟩ (.slice none 0 0)).setCell ⟨w.heap.size + 1, 2, none⟩ (.slice none 0 0)).setCell ⟨w.heap.size + 1, 3, none⟩ (.bool false)).setCell ⟨w.heap.size + 1, 4, none⟩ (.slice none 0 0)).setCell ⟨w.heap.size + 1, 5, none⟩ (.slice none 0 0)).setCell ⟨w.heap.size + 1, 6, none⟩ (.bool true)).setCell ⟨w.heap.size + 1, 7, none⟩ (.bool true)) = X2 at hg hB ⊢
    clear hX
    replace b1 := b1.other hg (by omega)
    replace b3 := b3.other hg (by omega)
    replace b2 := hB
    replace H0 := below_only H0 hg (by omega) H0.size
    clear hg hB
    refine bodyPost_ret (ret_span rfl rfl b2) rfl ?_
    exact ⟨_, _, _, _, _, _, _, _, _, _, _, _, _, _, _, _, rfl, .inr ⟨rfl, rfl, rfl, raw_nil _ _, raw_nil _ _⟩, .inr ⟨rfl, rfl, rfl, raw_nil _ _, raw_nil _ _⟩, H0⟩
  · skip
    obtain rfl := x0.no rfl
    obtain ⟨rfl, k1⟩ := x1.yes rfl
    clear x0 x1
    go_enter Tryz.func62, Tryz.ntmps62
    go_upto_region 1 with fail
    obtain ⟨W0, hW, b1, b2, hbW, hszW0⟩ := boxes2 w #[.bool s0, .slice A0 n0 c0, .slice D0 m0 e0, .bool s1, .slice A1 n1 c1, .slice D1 m1 e1, .bool true, .bool false] #[.bool false, .slice none 0 0, .slice none 0 0, .bool false, .slice none 0 0, .slice none 0 0, .bool false, .bool false] 39 32
    rw [hW]
    clear hW
    replace k1 := k1.below hbW
    have H0 := hbW
    clear hbW
    obtain ⟨cb10, cb11, cb12, cb13, cb14, cb15, cb16, cb17⟩ := b1.cells8
    go_upto_region 2 with fail
    clear cb10 cb11 cb12 cb13 cb14 cb15 cb16 cb17
    have lb1_1 := b1.lt
    have lb2_1 := b2.lt
    obtain ⟨W1, hW, b3, hbW, hszW1⟩ := boxes1 W0 #[.bool false, .slice none 0 0, .slice none 0 0, .bool false, .slice none 0 0, .slice none 0 0, .bool true, .bool false] 32
    rw [hW]
    clear hW
    replace k1 := k1.below hbW
    replace b1 := b1.below hbW
    replace b2 := b2.below hbW
    replace H0 := H0.trans (hbW.mono H0.size)
    clear hbW
    rw [hszW0] at b3
    obtain ⟨cb10, cb11, cb12, cb13, cb14, cb15, cb16, cb17⟩ := b1.cells8
    go_upto_region 4 with fail
    clear cb10 cb11 cb12 cb13 cb14 cb15 cb16 cb17
    obtain ⟨cb10, cb11, cb12, cb13, cb14, cb15, cb16, cb17⟩ := b1.cells8
    go_wp2_with fail
    clear cb10 cb11 cb12 cb13 cb14 cb15 cb16 cb17
    refine (toq_v k1 (by omega)).mono ?_
    rintro e w2 ⟨s3, A3, n3, c3, D3, m3, e3, rfl, j1, hb⟩
    replace k1 := k1.below hb
    replace b1 := b1.below hb
    replace b2 := b2.below hb
    replace b3 := b3.below hb
    replace H0 := H0.trans (hb.mono H0.size)
    clear hb
    clear k1
    obtain ⟨cb10, yb10, cb11, yb11, cb12, yb12, cb13, yb13, cb14, yb14, cb15, yb15, cb16, yb16, cb17, yb17⟩ := b1.cf8
    obtain ⟨cb30, yb30, cb31, yb31, cb32, yb32, cb33, yb33, cb34, yb34, cb35, yb35, cb36, yb36, cb37, yb37⟩ := b3.cf8
    go_upto_region 6 with fail
    clear cb10 yb10 cb11 yb11 cb12 yb12 cb13 yb13 cb14 yb14 cb15 yb15 cb16 yb16 cb17 yb17 cb30 yb30 cb31 yb31 cb32 yb32 cb33 yb33 cb34 yb34 cb35 yb35 cb36 yb36 cb37 yb37
    obtain ⟨cb30, yb30, cb31, yb31, cb32, yb32, cb33, yb33, cb34, yb34, cb35, yb35, cb36, yb36, cb37, yb37⟩ := b3.cf8
    clear cb30 yb30 cb31 yb31 cb32 yb32 cb33 yb33 cb34 yb34 cb35 yb35 cb36 yb36 cb37 yb37
    have hg : World.grownBy w2 (((w2.setCell ⟨w.heap.size + 2, 3, none⟩ (.bool s3)).setCell ⟨w.heap.size + 2, 4, none⟩ (.slice A3 n3 c3)).setCell ⟨w.heap.size + 2, 5, none⟩ (.slice D3 m3 e3)) (some (w.heap.size + 2)) := only_trans (only_trans (only_setCell _ ⟨w.heap.size + 2, 3, none⟩ (.bool s3)) (only_setCell _ ⟨w.heap.size + 2, 4, none⟩ (.slice A3 n3 c3))) (only_setCell _ ⟨w.heap.size + 2, 5, none⟩ (.slice D3 m3 e3))
    have hB : Box (((w2.setCell ⟨w.heap.size + 2, 3, none⟩ (.bool s3)).setCell ⟨w.heap.size + 2, 4, none⟩ (.slice A3 n3 c3)).setCell ⟨w.heap.size + 2, 5, none⟩ (.slice D3 m3 e3)) (w.heap.size + 2) #[.bool false, .slice none 0 0, .slice none 0 0, .bool s3, .slice A3 n3 c3, .slice D3 m3 e3, .bool true, .bool false] 32 := (Box.step (Box.step (Box.step b3 3 (.bool s3)) 4 (.slice A3 n3 c3)) 5 (.slice D3 m3 e3))
    generalize hX : (((w2.setCell ⟨w.heap.size + 2, 3, none⟩ (.bool s3)).setCell ⟨w.heap.size + 2, 4, none⟩ (.slice A3 n3 c3)).setCell ⟨w.heap.size + 2, 5, none⟩ (.slice D3 m3 e3)) = X3 at hg hB ⊢
    clear hX
    replace j1 := j1.kept b3 (by simp [notInt]) hg
    replace b1 := b1.other hg (by omega)
    replace b2 := b2.other hg (by omega)
    replace b3 := hB
    replace H0 := below_only H0 hg (by omega) H0.size
    clear hg hB
    obtain ⟨cb30, cb31, cb32, cb33, cb34, cb35, cb36, cb37⟩ := b3.cells8
    clear cb30 cb31 cb32 cb33 cb34 cb35 cb36 cb37
    obtain ⟨cb30, cb31, cb32, cb33, cb34, cb35, cb36, cb37⟩ := b3.cells8
    obtain ⟨cb20, yb20, cb21, yb21, cb22, yb22, cb23, yb23, cb24, yb24, cb25, yb25, cb26, yb26, cb27, yb27⟩ := b2.cf8
    go_wp2_with fail
    clear cb30 cb31 cb32 cb33 cb34 cb35 cb36 cb37 cb20 yb20 cb21 yb21 cb22 yb22 cb23 yb23 cb24 yb24 cb25 yb25 cb26 yb26 cb27 yb27
    have hg : World.grownBy X3 ((((((((X3.setCell ⟨w.heap.size + 1, 0, none⟩ (.bool false)).setCell ⟨w.heap.size + 1, 1, none⟩ (.slice none 0 0)).setCell ⟨w.heap.size + 1, 2, none⟩ (.slice none 0 0)).setCell ⟨w.heap.size + 1, 3, none⟩ (.bool s3)).setCell ⟨w.heap.size + 1, 4, none⟩ (.slice A3 n3 c3)).setCell ⟨w.heap.size + 1, 5, none⟩ (.slice D3 m3 e3)).setCell ⟨w.heap.size + 1, 6, none⟩ (.bool true)).setCell ⟨w.heap.size + 1, 7, none⟩ (.bool false)) (some (w.heap.size + 1)) := only_trans (only_trans (only_trans (only_trans (only_trans (only_trans (only_trans (only_setCell _ ⟨w.heap.size + 1, 0, none⟩ (.bool false)) (only_setCell _ ⟨w.heap.size + 1, 1, none⟩ (.slice none 0 0))) (only_setCell _ ⟨w.heap.size + 1, 2, none⟩ (.slice none 0 0))) (only_setCell _ ⟨w.heap.size + 1, 3, none⟩ (.bool s3))) (only_setCell _ ⟨w.heap.size + 1, 4, none⟩ (.slice A3 n3 c3))) (only_setCell _ ⟨w.heap.size + 1, 5, none⟩ (.slice D3 m3 e3))) (only_setCell _ ⟨w.heap.size + 1, 6, none⟩ (.bool true))) (only_setCell _ ⟨w.heap.size + 1, 7, none⟩ (.bool false))
    have hB : Box ((((((((X3.setCell ⟨w.heap.size + 1, 0, none⟩ (.bool false)).setCell ⟨w.heap.size + 1, 1, none⟩ (.slice none 0 0)).setCell ⟨w.heap.size + 1, 2, none⟩ (.slice none 0 0)).setCell ⟨w.heap.size + 1, 3, none⟩ (.bool s3)).setCell ⟨w.heap.size + 1, 4, none⟩ (.slice A3 n3 c3)).setCell ⟨w.heap.size + 1, 5, none⟩ (.slice D3 m3 e3)).setCell ⟨w.heap.size + 1, 6, none⟩ (.bool true)).setCell ⟨w.heap.size + 1, 7, none⟩ (.bool false)) (w.heap.size + 1) #[.bool false, .slice none 0 0, .slice none 0 0, .bool s3, .slice A3 n3 c3, .slice D3 m3 e3, .bool true, .bool false] 32 := (Box.step (Box.step (Box.step (Box.step (Box.step (Box.step (Box.step (Box.step b2 0 (.bool false)) 1 (.slice none 0 0)) 2 (.slice none 0 0)) 3 (.bool s3)) 4 (.slice A3 n3 c3)) 5 (.slice D3 m3 e3)) 6 (.bool true)) 7 (.bool false))
    generalize hX : ((((((((X3.setCell ⟨w.heap.size + 1, 0, none⟩ (.bool false)).setCell ⟨w.heap.size + 1, 1, none⟩ (.slice none 0 0)).setCell ⟨w.heap.size + 1, 2, none⟩ (.slice none 0 0)).setCell ⟨w.heap.size + 1, 3, none⟩ (.bool s3)).setCell ⟨w.heap.size + 1, 4, none⟩ (.slice A3 n3 c3)).setCell ⟨w.heap.size + 1, 5, none⟩ (.slice D3 m3 e3)).setCell ⟨w.heap.size + 1, 6, none⟩ (.bool true)).setCell ⟨w.heap.size + 1, 7, none⟩ (.bool false)) = X4 at hg hB ⊢
    clear hX
    replace j1 := j1.kept b2 (by simp [notInt]) hg
    replace b1 := b1.other hg (by omega)
    replace b3 := b3.other hg (by omega)
    replace b2 := hB
    replace H0 := below_only H0 hg (by omega) H0.size
    clear hg hB
    refine bodyPost_ret (ret_span rfl rfl b2) rfl ?_
    exact ⟨_, _, _, _, _, _, _, _, _, _, _, _, _, _, _, _, rfl, .inr ⟨rfl, rfl, rfl, raw_nil _ _, raw_nil _ _⟩, .inl ⟨rfl, _, rfl, j1⟩, H0⟩
  · skip
    obtain ⟨rfl, k0⟩ := x0.yes rfl
    obtain rfl := x1.no rfl
    clear x0 x1
    go_enter Tryz.func62, Tryz.ntmps62
    go_upto_region 1 with fail
    obtain ⟨W0, hW, b1, b2, hbW, hszW0⟩ := boxes2 w #[.bool s0, .slice A0 n0 c0, .slice D0 m0 e0, .bool s1, .slice A1 n1 c1, .slice D1 m1 e1, .bool false, .bool true] #[.bool false, .slice none 0 0, .slice none 0 0, .bool false, .slice none 0 0, .slice none 0 0, .bool false, .bool false] 39 32
    rw [hW]
    clear hW
    replace k0 := k0.below hbW
    have H0 := hbW
    clear hbW
    obtain ⟨cb10, cb11, cb12, cb13, cb14, cb15, cb16, cb17⟩ := b1.cells8
    go_upto_region 2 with fail
    clear cb10 cb11 cb12 cb13 cb14 cb15 cb16 cb17
    have lb1_1 := b1.lt
    have lb2_1 := b2.lt
    obtain ⟨W1, hW, b3, hbW, hszW1⟩ := boxes1 W0 #[.bool false, .slice none 0 0, .slice none 0 0, .bool false, .slice none 0 0, .slice none 0 0, .bool false, .bool true] 32
    rw [hW]
    clear hW
    replace k0 := k0.below hbW
    replace b1 := b1.below hbW
    replace b2 := b2.below hbW
    replace H0 := H0.trans (hbW.mono H0.size)
    clear hbW
    rw [hszW0] at b3
    obtain ⟨cb10, cb11, cb12, cb13, cb14, cb15, cb16, cb17⟩ := b1.cells8
    go_wp2_with fail
    clear cb10 cb11 cb12 cb13 cb14 cb15 cb16 cb17
    refine (toq_v k0 (by omega)).mono ?_
    rintro e w2 ⟨s2, A2, n2, c2, D2, m2, e2, rfl, j0, hb⟩
    replace k0 := k0.below hb
    replace b1 := b1.below hb
    replace b2 := b2.below hb
    replace b3 := b3.below hb
    replace H0 := H0.trans (hb.mono H0.size)
    clear hb
    clear k0
    obtain ⟨cb10, yb10, cb11, yb11, cb12, yb12, cb13, yb13, cb14, yb14, cb15, yb15, cb16, yb16, cb17, yb17⟩ := b1.cf8
    obtain ⟨cb30, yb30, cb31, yb31, cb32, yb32, cb33, yb33, cb34, yb34, cb35, yb35, cb36, yb36, cb37, yb37⟩ := b3.cf8
    go_upto_region 4 with fail
    clear cb10 yb10 cb11 yb11 cb12 yb12 cb13 yb13 cb14 yb14 cb15 yb15 cb16 yb16 cb17 yb17 cb30 yb30 cb31 yb31 cb32 yb32 cb33 yb33 cb34 yb34 cb35 yb35 cb36 yb36 cb37 yb37
    obtain ⟨cb30, yb30, cb31, yb31, cb32, yb32, cb33, yb33, cb34, yb34, cb35, yb35, cb36, yb36, cb37, yb37⟩ := b3.cf8
    clear cb30 yb30 cb31 yb31 cb32 yb32 cb33 yb33 cb34 yb34 cb35 yb35 cb36 yb36 cb37 yb37
    have hg : World.grownBy w2 (((w2.setCell ⟨w.heap.size + 2, 0, none⟩ (.bool s2)).setCell ⟨w.heap.size + 2, 1, none⟩ (.slice A2 n2 c2)).setCell ⟨w.heap.size + 2, 2, none⟩ (.slice D2 m2 e2)) (some (w.heap.size + 2)) := only_trans (only_trans (only_setCell _ ⟨w.heap.size + 2, 0, none⟩ (.bool s2)) (only_setCell _ ⟨w.heap.size + 2, 1, none⟩ (.slice A2 n2 c2))) (only_setCell _ ⟨w.heap.size + 2, 2, none⟩ (.slice D2 m2 e2))
    have hB : Box (((w2.setCell ⟨w.heap.size + 2, 0, none⟩ (.bool s2)).setCell ⟨w.heap.size + 2, 1, none⟩ (.slice A2 n2 c2)).setCell ⟨w.heap.size + 2, 2, none⟩ (.slice D2 m2 e2)) (w.heap.size + 2) #[.bool s2, .slice A2 n2 c2, .slice D2 m2 e2, .bool false, .slice none 0 0, .slice none 0 0, .bool false, .bool true] 32 := (Box.step (Box.step (Box.step b3 0 (.bool s2)) 1 (.slice A2 n2 c2)) 2 (.slice D2 m2 e2))
    generalize hX : (((w2.setCell ⟨w.heap.size + 2, 0, none⟩ (.bool s2)).setCell ⟨w.heap.size + 2, 1, none⟩ (.slice A2 n2 c2)).setCell ⟨w.heap.size + 2, 2, none⟩ (.slice D2 m2 e2)) = X3 at hg hB ⊢
    clear hX
    replace j0 := j0.kept b3 (by simp [notInt]) hg
    replace b1 := b1.other hg (by omega)
    replace b2 := b2.other hg (by omega)
    replace b3 := hB
    replace H0 := below_only H0 hg (by omega) H0.size
    clear hg hB
    obtain ⟨cb10, cb11, cb12, cb13, cb14, cb15, cb16, cb17⟩ := b1.cells8
    go_upto_region 6 with fail
    clear cb10 cb11 cb12 cb13 cb14 cb15 cb16 cb17
    obtain ⟨cb30, cb31, cb32, cb33, cb34, cb35, cb36, cb37⟩ := b3.cells8
    clear cb30 cb31 cb32 cb33 cb34 cb35 cb36 cb37
    obtain ⟨cb30, cb31, cb32, cb33, cb34, cb35, cb36, cb37⟩ := b3.cells8
    obtain ⟨cb20, yb20, cb21, yb21, cb22, yb22, cb23, yb23, cb24, yb24, cb25, yb25, cb26, yb26, cb27, yb27⟩ := b2.cf8
    go_wp2_with fail
    clear cb30 cb31 cb32 cb33 cb34 cb35 cb36 cb37 cb20 yb20 cb21 yb21 cb22 yb22 cb23 yb23 cb24 yb24 cb25 yb25 cb26 yb26 cb27 yb27
    have hg : World.grownBy X3 ((((((((X3.setCell ⟨w.heap.size + 1, 0, none⟩ (.bool s2)).setCell ⟨w.heap.size + 1, 1, none⟩ (.slice A2 n2 c2)).setCell ⟨w.heap.size + 1, 2, none⟩ (.slice D2 m2 e2)).setCell ⟨w.heap.size + 1, 3, none⟩ (.bool false)).setCell ⟨w.heap.size + 1, 4, none⟩ (.slice none 0 0)).setCell ⟨w.heap.size + 1, 5, none⟩ (.slice none 0 0)).setCell ⟨w.heap.size + 1, 6, none⟩ (.bool false)).setCell ⟨w.heap.size + 1, 7, none⟩ (.bool true)) (some (w.heap.size + 1)) := only_trans (only_trans (only_trans (only_trans (only_trans (only_trans (only_trans (only_setCell _ ⟨w.heap.size + 1, 0, none⟩ (.bool s2)) (only_setCell _ ⟨w.heap.size + 1, 1, none⟩ (.slice A2 n2 c2))) (only_setCell _ ⟨w.heap.size + 1, 2, none⟩ (.slice D2 m2 e2))) (only_setCell _ ⟨w.heap.size + 1, 3, none⟩ (.bool false))) (only_setCell _ ⟨w.heap.size + 1, 4, none⟩ (.slice none 0 0))) (only_setCell _ ⟨w.heap.size + 1, 5, none⟩ (.slice none 0 0))) (only_setCell _ ⟨w.heap.size + 1, 6, none⟩ (.bool false))) (only_setCell _ ⟨w.heap.size + 1, 7, none⟩ (.bool true))
    have hB : Box ((((((((X3.setCell ⟨w.heap.size + 1, 0, none⟩ (.bool s2)).setCell ⟨w.heap.size + 1, 1, none⟩ (.slice A2 n2 c2)).setCell ⟨w.heap.size + 1, 2, none⟩ (.slice D2 m2 e2)).setCell ⟨w.heap.size + 1, 3, none⟩ (.bool false)).setCell ⟨w.heap.size + 1, 4, none⟩ (.slice none 0 0)).setCell ⟨w.heap.size + 1, 5, none⟩ (.slice none 0 0)).setCell ⟨w.heap.size + 1, 6, none⟩ (.bool false)).setCell ⟨w.heap.size + 1, 7, none⟩ (.bool true)) (w.heap.size + 1) #[.bool s2, .slice A2 n2 c2, .slice D2 m2 e2, .bool false, .slice none 0 0, .slice none 0 0, .bool false, .bool true] 32 := (Box.step (Box.step (Box.step (Box.step (Box.step (Box.step (Box.step (Box.step b2 0 (.bool s2)) 1 (.slice A2 n2 c2)) 2 (.slice D2 m2 e2)) 3 (.bool false)) 4 (.slice none 0 0)) 5 (.slice none 0 0)) 6 (.bool false)) 7 (.bool true))
    generalize hX : ((((((((X3.setCell ⟨w.heap.size + 1, 0, none⟩ (.bool s2)).setCell ⟨w.heap.size + 1, 1, none⟩ (.slice A2 n2 c2)).setCell ⟨w.heap.size + 1, 2, none⟩ (.slice D2 m2 e2)).setCell ⟨w.heap.size + 1, 3, none⟩ (.bool false)).setCell ⟨w.heap.size + 1, 4, none⟩ (.slice none 0 0)).setCell ⟨w.heap.size + 1, 5, none⟩ (.slice none 0 0)).setCell ⟨w.heap.size + 1, 6, none⟩ (.bool false)).setCell ⟨w.heap.size + 1, 7, none⟩ (.bool true)) = X4 at hg hB ⊢
    clear hX
    replace j0 := j0.kept b2 (by simp [notInt]) hg
    replace b1 := b1.other hg (by omega)
    replace b3 := b3.other hg (by omega)
    replace b2 := hB
    replace H0 := below_only H0 hg (by omega) H0.size
    clear hg hB
    refine bodyPost_ret (ret_span rfl rfl b2) rfl ?_
    exact ⟨_, _, _, _, _, _, _, _, _, _, _, _, _, _, _, _, rfl, .inl ⟨rfl, _, rfl, j0⟩, .inr ⟨rfl, rfl, rfl, raw_nil _ _, raw_nil _ _⟩, H0⟩
  · skip
    obtain ⟨rfl, k0⟩ := x0.yes rfl
    obtain ⟨rfl, k1⟩ := x1.yes rfl
    clear x0 x1
    go_enter Tryz.func62, Tryz.ntmps62
    go_upto_region 1 with fail
    obtain ⟨W0, hW, b1, b2, hbW, hszW0⟩ := boxes2 w #[.bool s0, .slice A0 n0 c0, .slice D0 m0 e0, .bool s1, .slice A1 n1 c1, .slice D1 m1 e1, .bool false, .bool false] #[.bool false, .slice none 0 0, .slice none 0 0, .bool false, .slice none 0 0, .slice none 0 0, .bool false, .bool false] 39 32
    rw [hW]
    clear hW
    replace k0 := k0.below hbW
    replace k1 := k1.below hbW
    have H0 := hbW
    clear hbW
    obtain ⟨cb10, cb11, cb12, cb13, cb14, cb15, cb16, cb17⟩ := b1.cells8
    go_upto_region 2 with fail
    clear cb10 cb11 cb12 cb13 cb14 cb15 cb16 cb17
    have lb1_1 := b1.lt
    have lb2_1 := b2.lt
    obtain ⟨W1, hW, b3, hbW, hszW1⟩ := boxes1 W0 #[.bool false, .slice none 0 0, .slice none 0 0, .bool false, .slice none 0 0, .slice none 0 0, .bool false, .bool false] 32
    rw [hW]
    clear hW
    replace k0 := k0.below hbW
    replace k1 := k1.below hbW
    replace b1 := b1.below hbW
    replace b2 := b2.below hbW
    replace H0 := H0.trans (hbW.mono H0.size)
    clear hbW
    rw [hszW0] at b3
    obtain ⟨cb10, cb11, cb12, cb13, cb14, cb15, cb16, cb17⟩ := b1.cells8
    go_wp2_with fail
    clear cb10 cb11 cb12 cb13 cb14 cb15 cb16 cb17
    refine (toq_v k0 (by omega)).mono ?_
    rintro e w2 ⟨s2, A2, n2, c2, D2, m2, e2, rfl, j0, hb⟩
    replace k0 := k0.below hb
    replace k1 := k1.below hb
    replace b1 := b1.below hb
    replace b2 := b2.below hb
    replace b3 := b3.below hb
    replace H0 := H0.trans (hb.mono H0.size)
    clear hb
    clear k0
    obtain ⟨cb10, yb10, cb11, yb11, cb12, yb12, cb13, yb13, cb14, yb14, cb15, yb15, cb16, yb16, cb17, yb17⟩ := b1.cf8
    obtain ⟨cb30, yb30, cb31, yb31, cb32, yb32, cb33, yb33, cb34, yb34, cb35, yb35, cb36, yb36, cb37, yb37⟩ := b3.cf8
    go_upto_region 4 with fail
    clear cb10 yb10 cb11 yb11 cb12 yb12 cb13 yb13 cb14 yb14 cb15 yb15 cb16 yb16 cb17 yb17 cb30 yb30 cb31 yb31 cb32 yb32 cb33 yb33 cb34 yb34 cb35 yb35 cb36 yb36 cb37 yb37
    obtain ⟨cb30, yb30, cb31, yb31, cb32, yb32, cb33, yb33, cb34, yb34, cb35, yb35, cb36, yb36, cb37, yb37⟩ := b3.cf8
    clear cb30 yb30 cb31 yb31 cb32 yb32 cb33 yb33 cb34 yb34 cb35 yb35 cb36 yb36 cb37 yb37
    have hg : World.grownBy w2 (((w2.setCell ⟨w.heap.size + 2, 0, none⟩ (.bool s2)).setCell ⟨w.heap.size + 2, 1, none⟩ (.slice A2 n2 c2)).setCell ⟨w.heap.size + 2, 2, none⟩ (.slice D2 m2 e2)) (some (w.heap.size + 2)) := only_trans (only_trans (only_setCell _ ⟨w.heap.size + 2, 0, none⟩ (.bool s2)) (only_setCell _ ⟨w.heap.size + 2, 1, none⟩ (.slice A2 n2 c2))) (only_setCell _ ⟨w.heap.size + 2, 2, none⟩ (.slice D2 m2 e2))
    have hB : Box (((w2.setCell ⟨w.heap.size + 2, 0, none⟩ (.bool s2)).setCell ⟨w.heap.size + 2, 1, none⟩ (.slice A2 n2 c2)).setCell ⟨w.heap.size + 2, 2, none⟩ (.slice D2 m2 e2)) (w.heap.size + 2) #[.bool s2, .slice A2 n2 c2, .slice D2 m2 e2, .bool false, .slice none 0 0, .slice none 0 0, .bool false, .bool false] 32 := (Box.step (Box.step (Box.step b3 0 (.bool s2)) 1 (.slice A2 n2 c2)) 2 (.slice D2 m2 e2))
    generalize hX : (((w2.setCell ⟨w.heap.size + 2, 0, none⟩ (.bool s2)).setCell ⟨w.heap.size + 2, 1, none⟩ (.slice A2 n2 c2)).setCell ⟨w.heap.size + 2, 2, none⟩ (.slice D2 m2 e2)) = X3 at hg hB ⊢
    clear hX
    replace k1 := k1.kept b3 (by simp [notInt]) hg
    replace j0 := j0.kept b3 (by simp [notInt]) hg
    replace b1 := b1.other hg (by omega)
    replace b2 := b2.other hg (by omega)
    replace b3 := hB
    replace H0 := below_only H0 hg (by omega) H0.size
    clear hg hB
    obtain ⟨cb10, cb11, cb12, cb13, cb14, cb15, cb16, cb17⟩ := b1.cells8
    go_wp2_with fail
    clear cb10 cb11 cb12 cb13 cb14 cb15 cb16 cb17
    refine (toq_v k1 (by omega)).mono ?_
    rintro e w4 ⟨s3, A3, n3, c3, D3, m3, e3, rfl, j1, hb⟩
    replace k1 := k1.below hb
    replace j0 := j0.below hb
    replace b1 := b1.below hb
    replace b2 := b2.below hb
    replace b3 := b3.below hb
    replace H0 := H0.trans (hb.mono H0.size)
    clear hb
    clear k1
    obtain ⟨cb10, yb10, cb11, yb11, cb12, yb12, cb13, yb13, cb14, yb14, cb15, yb15, cb16, yb16, cb17, yb17⟩ := b1.cf8
    obtain ⟨cb30, yb30, cb31, yb31, cb32, yb32, cb33, yb33, cb34, yb34, cb35, yb35, cb36, yb36, cb37, yb37⟩ := b3.cf8
    go_upto_region 6 with fail
    clear cb10 yb10 cb11 yb11 cb12 yb12 cb13 yb13 cb14 yb14 cb15 yb15 cb16 yb16 cb17 yb17 cb30 yb30 cb31 yb31 cb32 yb32 cb33 yb33 cb34 yb34 cb35 yb35 cb36 yb36 cb37 yb37
    obtain ⟨cb30, yb30, cb31, yb31, cb32, yb32, cb33, yb33, cb34, yb34, cb35, yb35, cb36, yb36, cb37, yb37⟩ := b3.cf8
    clear cb30 yb30 cb31 yb31 cb32 yb32 cb33 yb33 cb34 yb34 cb35 yb35 cb36 yb36 cb37 yb37
    have hg : World.grownBy w4 (((w4.setCell ⟨w.heap.size + 2, 3, none⟩ (.bool s3)).setCell ⟨w.heap.size + 2, 4, none⟩ (.slice A3 n3 c3)).setCell ⟨w.heap.size + 2, 5, none⟩ (.slice D3 m3 e3)) (some (w.heap.size + 2)) := only_trans (only_trans (only_setCell _ ⟨w.heap.size + 2, 3, none⟩ (.bool s3)) (only_setCell _ ⟨w.heap.size + 2, 4, none⟩ (.slice A3 n3 c3))) (only_setCell _ ⟨w.heap.size + 2, 5, none⟩ (.slice D3 m3 e3))
    have hB : Box (((w4.setCell ⟨w.heap.size + 2, 3, none⟩ (.bool s3)).setCell ⟨w.heap.size + 2, 4, none⟩ (.slice A3 n3 c3)).setCell ⟨w.heap.size + 2, 5, none⟩ (.slice D3 m3 e3)) (w.heap.size + 2) #[.bool s2, .slice A2 n2 c2, .slice D2 m2 e2, .bool s3, .slice A3 n3 c3, .slice D3 m3 e3, .bool false, .bool false] 32 := (Box.step (Box.step (Box.step b3 3 (.bool s3)) 4 (.slice A3 n3 c3)) 5 (.slice D3 m3 e3))
    generalize hX : (((w4.setCell ⟨w.heap.size + 2, 3, none⟩ (.bool s3)).setCell ⟨w.heap.size + 2, 4, none⟩ (.slice A3 n3 c3)).setCell ⟨w.heap.size + 2, 5, none⟩ (.slice D3 m3 e3)) = X5 at hg hB ⊢
    clear hX
    replace j0 := j0.kept b3 (by simp [notInt]) hg
    replace j1 := j1.kept b3 (by simp [notInt]) hg
    replace b1 := b1.other hg (by omega)
    replace b2 := b2.other hg (by omega)
    replace b3 := hB
    replace H0 := below_only H0 hg (by omega) H0.size
    clear hg hB
    obtain ⟨cb30, cb31, cb32, cb33, cb34, cb35, cb36, cb37⟩ := b3.cells8
    clear cb30 cb31 cb32 cb33 cb34 cb35 cb36 cb37
    obtain ⟨cb30, cb31, cb32, cb33, cb34, cb35, cb36, cb37⟩ := b3.cells8
    obtain ⟨cb20, yb20, cb21, yb21, cb22, yb22, cb23, yb23, cb24, yb24, cb25, yb25, cb26, yb26, cb27, yb27⟩ := b2.cf8
    go_wp2_with fail
    clear cb30 cb31 cb32 cb33 cb34 cb35 cb36 cb37 cb20 yb20 cb21 yb21 cb22 yb22 cb23 yb23 cb24 yb24 cb25 yb25 cb26 yb26 cb27 yb27
    have hg : World.grownBy X5 ((((((((X5.setCell ⟨w.heap.size + 1, 0, none⟩ (.bool s2)).setCell ⟨w.heap.size + 1, 1, none⟩ (.slice A2 n2 c2)).setCell ⟨w.heap.size + 1, 2, none⟩ (.slice D2 m2 e2)).setCell ⟨w.heap.size + 1, 3, none⟩ (.bool s3)).setCell ⟨w.heap.size + 1, 4, none⟩ (.slice A3 n3 c3)).setCell ⟨w.heap.size + 1, 5, none⟩ (.slice D3 m3 e3)).setCell ⟨w.heap.size + 1, 6, none⟩ (.bool false)).setCell ⟨w.heap.size + 1, 7, none⟩ (.bool false)) (some (w.heap.size + 1)) := only_trans (only_trans (only_trans (only_trans (only_trans (only_trans (only_trans (only_setCell _ ⟨w.heap.size + 1, 0, none⟩ (.bool s2)) (only_setCell _ ⟨w.heap.size + 1, 1, none⟩ (.slice A2 n2 c2))) (only_setCell _ ⟨w.heap.size + 1, 2, none⟩ (.slice D2 m2 e2))) (only_setCell _ ⟨w.heap.size + 1, 3, none⟩ (.bool s3))) (only_setCell _ ⟨w.heap.size + 1, 4, none⟩ (.slice A3 n3 c3))) (only_setCell _ ⟨w.heap.size + 1, 5, none⟩ (.slice D3 m3 e3))) (only_setCell _ ⟨w.heap.size + 1, 6, none⟩ (.bool false))) (only_setCell _ ⟨w.heap.size + 1, 7, none⟩ (.bool false))
    have hB : Box ((((((((X5.setCell ⟨w.heap.size + 1, 0, none⟩ (.bool s2)).setCell ⟨w.heap.size + 1, 1, none⟩ (.slice A2 n2 c2)).setCell ⟨w.heap.size + 1, 2, none⟩ (.slice D2 m2 e2)).setCell ⟨w.heap.size + 1, 3, none⟩ (.bool s3)).setCell ⟨w.heap.size + 1, 4, none⟩ (.slice A3 n3 c3)).setCell ⟨w.heap.size + 1, 5, none⟩ (.slice D3 m3 e3)).setCell ⟨w.heap.size + 1, 6, none⟩ (.bool false)).setCell ⟨w.heap.size + 1, 7, none⟩ (.bool false)) (w.heap.size + 1) #[.bool s2, .slice A2 n2 c2, .slice D2 m2 e2, .bool s3, .slice A3 n3 c3, .slice D3 m3 e3, .bool false, .bool false] 32 := (Box.step (Box.step (Box.step (Box.step (Box.step (Box.step (Box.step (Box.step b2 0 (.bool s2)) 1 (.slice A2 n2 c2)) 2 (.slice D2 m2 e2)) 3 (.bool s3)) 4 (.slice A3 n3 c3)) 5 (.slice D3 m3 e3)) 6 (.bool false)) 7 (.bool false))
    generalize hX : ((((((((X5.setCell ⟨w.heap.size + 1, 0, none⟩ (.bool s2)).setCell ⟨w.heap.size + 1, 1, none⟩ (.slice A2 n2 c2)).setCell ⟨w.heap.size + 1, 2, none⟩ (.slice D2 m2 e2)).setCell ⟨w.heap.size + 1, 3, none⟩ (.bool s3)).setCell ⟨w.heap.size + 1, 4, none⟩ (.slice A3 n3 c3)).setCell ⟨w.heap.size + 1, 5, none⟩ (.slice D3 m3 e3)).setCell ⟨w.heap.size + 1, 6, none⟩ (.bool false)).setCell ⟨w.heap.size + 1, 7, none⟩ (.bool false)) = X6 at hg hB ⊢
    clear hX
    replace j0 := j0.kept b2 (by simp [notInt]) hg
    replace j1 := j1.kept b2 (by simp [notInt]) hg
    replace b1 := b1.other hg (by omega)
    replace b3 := b3.other hg (by omega)
    replace b2 := hB
    replace H0 := below_only H0 hg (by omega) H0.size
    clear hg hB
    refine bodyPost_ret (ret_span rfl rfl b2) rfl ?_
    exact ⟨_, _, _, _, _, _, _, _, _, _, _, _, _, _, _, _, rfl, .inl ⟨rfl, _, rfl, j0⟩, .inl ⟨rfl, _, rfl, j1⟩, H0⟩
end
end Go.Proofs.YtpgkkkodniiilaaGreatDoor
