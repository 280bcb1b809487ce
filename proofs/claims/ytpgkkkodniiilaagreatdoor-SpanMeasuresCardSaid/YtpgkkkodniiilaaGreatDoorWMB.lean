/-
  SpMa, SpMb in one text.
-/
import Derived.Test.YtpgkkkodniiilaaGreatDoorWSq
import Derived.Test.YtpgkkkodniiilaaGreatDoorWSpLn
import Derived.IntWalk
import Derived.Deep.Cut
namespace Go.Proofs.YtpgkkkodniiilaaGreatDoor
open List (getElem_toArray getElem_cons_succ getElem_cons_zero setIfInBounds_toArray set_cons_zero set_cons_succ)
open Go.RowKit
section
variable {f0 h0 f1 h1 f2 h2 f3 h3 f4 h4 f5 h5 f6 h6 f7 h7 f8 h8 f9 h9 f10 h10 f11 h11 : Bool} {A0 A1 A6 A7 A8 A9 D0 D1 D6 D7 D8 D9 : Option Addr} {n0 n1 n6 n7 n8 n9 c0 c1 c2 c3 c4 c5 c6 c7 c8 c9 m0 m1 m6 m7 m8 m9 e0 e1 e2 e3 e4 e6 e7 e8 e9 : Nat} {s0 s1 s6 s7 s8 s9 : Bool} {q0 q1 q2 q3 q4 q5 q6 q7 : Rat} {z0 z1 z2 z3 z4 z5 z6 z7 z8 z9 z10 z11 : Int} {L L0 L1 x y : Nat} {k : Int} {w : World}
variable {o0 o1 o2 o3 : Option Rat} {l l' : List Sp}
/-- The cells of a number of the program. -/
def NE (w : World) (L : Nat) (cs : List Value) (q : Rat) : Prop := ∃ s0 A0 n0 c0 D0 m0 e0, cs = [.bool s0, .slice A0 n0 c0, .slice D0 m0 e0] ∧ NQ w s0 (.slice A0 n0 c0) (.slice D0 m0 e0) q L
theorem firm_ne (L : Nat) (cs : List Value) (q : Rat) : Firm fun w => NE w L cs q :=
  Firm.ex fun _ => Firm.ex fun _ => Firm.ex fun _ => Firm.ex fun _ => Firm.ex fun _ => Firm.ex fun _ => Firm.ex fun _ => (Firm.const _).and (firm_nq _ _ _ _ _)
def NL (w : World) (L : Nat) (css : List (List Value)) (qs : List Rat) : Prop := All2 (NE w L) css qs
theorem firm_nl (L : Nat) (css : List (List Value)) (l : List Rat) : Firm fun w => NL w L css l := Firm.all2 (fun a b => firm_ne L a b) css l
theorem NL.below {w' : World} {css : List (List Value)} {qs : List Rat} (h : NL w L css qs) (hb : Below w.heap.size w w') : NL w' L css qs := (firm_nl L css qs).below h hb
theorem NL.own {w' : World} {B : Nat} {e : TypeId} {k : Nat} {v : Value} {css cs0 : List (List Value)} {qs : List Rat} (h : NL w L css qs) (ho : OwnE w B e k v cs0) (hg : w.grownBy w' v.ownBlock) : NL w' L css qs := (firm_nl L css qs).own h ho.2.2 hg
/-- A list of numbers of the program in memory. -/
def NS (w : World) (L : Nat) (v : Value) (qs : List Rat) : Prop := ∃ css, ReadR w 3 v css ∧ All2 (NE w L) css qs
theorem NS.below {w' : World} {v : Value} {qs : List Rat} (h : NS w L v qs) (hb : Below w.heap.size w w') : NS w' L v qs := by
  obtain ⟨css, h1, h2⟩ := h
  exact ⟨css, h1.below hb, h2.mono fun a b r => (firm_ne L a b).below r hb⟩
theorem NS.form {v : Value} {qs : List Rat} (h : NS w L v qs) : ∃ A c, v = .slice A qs.length c ∧ qs.length ≤ c ∧ c ≤ maxLen := by
  obtain ⟨css, h1, h2⟩ := h
  rw [← h2.len]; exact h1.shape
theorem elem_rat : ElemT 74 28 3 := elemT Tryz.underlying74 (by decide) (by kernel_rfl)
theorem NS.elem {A : Option Addr} {n c i : Nat} {l : List (Rat)} {s : Rat} (h : NS w L (.slice A n c) l) (hi : l[i]? = some s) : ∃ g o, ∃ (s0 : Bool), ∃ (A0 : Option Addr), ∃ (n0 : Nat), ∃ (c0 : Nat), ∃ (D0 : Option Addr), ∃ (m0 : Nat), ∃ (e0 : Nat), A = some ⟨g, o, none⟩ ∧ w.cell? ⟨g, o + i * 3, none⟩ = some (.bool s0) ∧ w.cell? ⟨g, o + i * 3 + 1, none⟩ = some (.slice A0 n0 c0) ∧ w.cell? ⟨g, o + i * 3 + 2, none⟩ = some (.slice D0 m0 e0) ∧ NQ w s0 (.slice A0 n0 c0) (.slice D0 m0 e0) s L := by
  obtain ⟨css, ⟨hk, A', c', e1, _, _, hr⟩, ha⟩ := h
  injection e1 with e1 e2 e3
  subst e1 e2 e3
  obtain ⟨cs, hcs, hE⟩ := ha.get hi
  obtain ⟨s0, A0, n0, c0, D0, m0, e0, rfl, hE0⟩ := hE
  obtain ⟨g, o, e4, hcell⟩ := hr (by rintro rfl; cases hcs)
  have hc := fun j x hx => hcell i _ hcs j x hx
  refine ⟨g, o, s0, A0, n0, c0, D0, m0, e0, e4, ?_, ?_, ?_, hE0⟩
  · exact hc 0 _ rfl
  · rw [Nat.add_assoc]; exact hc 1 _ rfl
  · rw [Nat.add_assoc]; exact hc 2 _ rfl
set_option maxRecDepth 100000 in
set_option maxHeartbeats 4000000 in
theorem sample_v (x0 : EndV w L s0 (.slice A0 n0 c0) (.slice D0 m0 e0) f0 o0) (x1 : EndV w L s1 (.slice A1 n1 c1) (.slice D1 m1 e1) h0 o1) (hL : L ≤ 1000) :
    Calls Tryz.prog 78 #[.agg #[.bool s0, .slice A0 n0 c0, .slice D0 m0 e0, .bool s1, .slice A1 n1 c1, .slice D1 m1 e1, .bool f0, .bool h0]] w fun e w' => ∃ s7 A7 n7 c7 D7 m7 e7, e = .returned (.agg #[.bool s7, .slice A7 n7 c7, .slice D7 m7 e7]) ∧ NQ w' s7 (.slice A7 n7 c7) (.slice D7 m7 e7) (samS ⟨o0, o1⟩) (2 * max L 2 + 2) ∧ Below w.heap.size w w' := by
  rcases o0 with _ | p <;> rcases o1 with _ | p'
  · obtain ⟨rfl, rfl, -, -⟩ := x0.no rfl
    obtain ⟨rfl, rfl, -, -⟩ := x1.no rfl
    clear x0 x1
    go_enter Tryz.func78, Tryz.ntmps78
    go_wp2_with fail
    obtain ⟨W0, hW, b1, b2, hbW, hszW0⟩ := boxes2 w #[.bool false, .slice A0 n0 c0, .slice D0 m0 e0, .bool false, .slice A1 n1 c1, .slice D1 m1 e1, .bool true, .bool true] #[.bool false, .slice none 0 0, .slice none 0 0] 32 28
    rw [hW]
    clear hW
    have H0 := hbW
    clear hbW
    clear hszW0
    refine (rfromint_v 1 (by decide) (by decide) _).mono ?_
    rintro e w1 ⟨s6, A6, n6, c6, D6, m6, e6, rfl, k6, hb⟩
    replace b1 := b1.below hb
    replace b2 := b2.below hb
    replace H0 := H0.trans (hb.mono H0.size)
    clear hb
    have lb1_2 := b1.lt
    have lb2_2 := b2.lt
    obtain ⟨W2, hW, b3, hbW, hszW2⟩ := boxes1 w1 #[.bool s6, .slice A6 n6 c6, .slice D6 m6 e6] 28
    skip
    skip
    replace k6 := k6.below hbW
    replace b1 := b1.below hbW
    replace b2 := b2.below hbW
    replace H0 := H0.trans (hbW.mono H0.size)
    clear hbW
    obtain ⟨cb10, cb11, cb12, cb13, cb14, cb15, cb16, cb17⟩ := b1.cells8
    obtain ⟨d0, d1, d2⟩ := b3.cells3
    go_wp2_with fail
    clear hW
    clear hszW2
    clear cb10 cb11 cb12 cb13 cb14 cb15 cb16 cb17
    clear d0 d1 d2
    refine (rfromint_v 0 (by decide) (by decide) _).mono ?_
    rintro e w3 ⟨s7, A7, n7, c7, D7, m7, e7, rfl, k7, hb⟩
    replace k6 := k6.below hb
    replace b1 := b1.below hb
    replace b2 := b2.below hb
    replace b3 := b3.below hb
    replace H0 := H0.trans (hb.mono H0.size)
    clear hb
    clear k6
    obtain ⟨cb20, yb20, cb21, yb21, cb22, yb22⟩ := b2.cf3
    go_wp2_with fail
    clear cb20 yb20 cb21 yb21 cb22 yb22
    have hg := only_store3 w3 (w.heap.size + 1) (.bool s7) (.slice A7 n7 c7) (.slice D7 m7 e7)
    have hB := b2.stored3 (.bool s7) (.slice A7 n7 c7) (.slice D7 m7 e7)
    generalize hX : (((w3.setCell ⟨w.heap.size + 1, 0, none⟩ (.bool s7)).setCell ⟨w.heap.size + 1, 1, none⟩ (.slice A7 n7 c7)).setCell ⟨w.heap.size + 1, 2, none⟩ (.slice D7 m7 e7)) = X4 at hg hB ⊢
    clear hX
    replace k7 := k7.kept b2 (by simp [notInt]) hg
    replace b1 := b1.other hg (by omega)
    replace b3 := b3.other hg (by omega)
    replace b2 := hB
    replace H0 := below_only H0 hg (by omega) H0.size
    clear hg hB
    refine bodyPost_ret (ret_rat rfl rfl b2) rfl ?_
    exact ⟨s7, A7, n7, c7, D7, m7, e7, rfl, k7.more (by omega), H0⟩
  · obtain ⟨rfl, rfl, -, -⟩ := x0.no rfl
    obtain ⟨rfl, k1⟩ := x1.yes rfl
    clear x0 x1
    go_enter Tryz.func78, Tryz.ntmps78
    go_wp2_with fail
    obtain ⟨W0, hW, b1, b2, hbW, hszW0⟩ := boxes2 w #[.bool false, .slice A0 n0 c0, .slice D0 m0 e0, .bool s1, .slice A1 n1 c1, .slice D1 m1 e1, .bool true, .bool false] #[.bool false, .slice none 0 0, .slice none 0 0] 32 28
    rw [hW]
    clear hW
    replace k1 := k1.below hbW
    have H0 := hbW
    clear hbW
    clear hszW0
    refine (rfromint_v 1 (by decide) (by decide) _).mono ?_
    rintro e w1 ⟨s6, A6, n6, c6, D6, m6, e6, rfl, k6, hb⟩
    replace k1 := k1.below hb
    replace b1 := b1.below hb
    replace b2 := b2.below hb
    replace H0 := H0.trans (hb.mono H0.size)
    clear hb
    have lb1_2 := b1.lt
    have lb2_2 := b2.lt
    obtain ⟨W2, hW, b3, hbW, hszW2⟩ := boxes1 w1 #[.bool s6, .slice A6 n6 c6, .slice D6 m6 e6] 28
    skip
    skip
    replace k1 := k1.below hbW
    replace k6 := k6.below hbW
    replace b1 := b1.below hbW
    replace b2 := b2.below hbW
    replace H0 := H0.trans (hbW.mono H0.size)
    clear hbW
    obtain ⟨cb10, cb11, cb12, cb13, cb14, cb15, cb16, cb17⟩ := b1.cells8
    obtain ⟨d0, d1, d2⟩ := b3.cells3
    go_wp2_with fail
    clear hW
    clear hszW2
    clear cb10 cb11 cb12 cb13 cb14 cb15 cb16 cb17
    clear d0 d1 d2
    refine (rsub_v k1.rq k6.rq (by omega) (by decide)).mono ?_
    rintro e w3 ⟨s7, A7, n7, c7, D7, m7, e7, rfl, k7, hb⟩
    replace k1 := k1.below hb
    replace k6 := k6.below hb
    replace b1 := b1.below hb
    replace b2 := b2.below hb
    replace b3 := b3.below hb
    replace H0 := H0.trans (hb.mono H0.size)
    clear hb
    clear k1
    clear k6
    obtain ⟨cb20, yb20, cb21, yb21, cb22, yb22⟩ := b2.cf3
    go_wp2_with fail
    clear cb20 yb20 cb21 yb21 cb22 yb22
    have hg := only_store3 w3 (w.heap.size + 1) (.bool s7) (.slice A7 n7 c7) (.slice D7 m7 e7)
    have hB := b2.stored3 (.bool s7) (.slice A7 n7 c7) (.slice D7 m7 e7)
    generalize hX : (((w3.setCell ⟨w.heap.size + 1, 0, none⟩ (.bool s7)).setCell ⟨w.heap.size + 1, 1, none⟩ (.slice A7 n7 c7)).setCell ⟨w.heap.size + 1, 2, none⟩ (.slice D7 m7 e7)) = X4 at hg hB ⊢
    clear hX
    replace k7 := k7.kept b2 (by simp [notInt]) hg
    replace b1 := b1.other hg (by omega)
    replace b3 := b3.other hg (by omega)
    replace b2 := hB
    replace H0 := below_only H0 hg (by omega) H0.size
    clear hg hB
    refine bodyPost_ret (ret_rat rfl rfl b2) rfl ?_
    exact ⟨s7, A7, n7, c7, D7, m7, e7, rfl, k7.more (by omega), H0⟩
  · obtain ⟨rfl, k0⟩ := x0.yes rfl
    obtain ⟨rfl, rfl, -, -⟩ := x1.no rfl
    clear x0 x1
    go_enter Tryz.func78, Tryz.ntmps78
    go_wp2_with fail
    obtain ⟨W0, hW, b1, b2, hbW, hszW0⟩ := boxes2 w #[.bool s0, .slice A0 n0 c0, .slice D0 m0 e0, .bool false, .slice A1 n1 c1, .slice D1 m1 e1, .bool false, .bool true] #[.bool false, .slice none 0 0, .slice none 0 0] 32 28
    rw [hW]
    clear hW
    replace k0 := k0.below hbW
    have H0 := hbW
    clear hbW
    clear hszW0
    refine (rfromint_v 1 (by decide) (by decide) _).mono ?_
    rintro e w1 ⟨s6, A6, n6, c6, D6, m6, e6, rfl, k6, hb⟩
    replace k0 := k0.below hb
    replace b1 := b1.below hb
    replace b2 := b2.below hb
    replace H0 := H0.trans (hb.mono H0.size)
    clear hb
    have lb1_2 := b1.lt
    have lb2_2 := b2.lt
    obtain ⟨W2, hW, b3, hbW, hszW2⟩ := boxes1 w1 #[.bool s6, .slice A6 n6 c6, .slice D6 m6 e6] 28
    skip
    skip
    replace k0 := k0.below hbW
    replace k6 := k6.below hbW
    replace b1 := b1.below hbW
    replace b2 := b2.below hbW
    replace H0 := H0.trans (hbW.mono H0.size)
    clear hbW
    obtain ⟨cb10, cb11, cb12, cb13, cb14, cb15, cb16, cb17⟩ := b1.cells8
    obtain ⟨d0, d1, d2⟩ := b3.cells3
    go_wp2_with fail
    clear hW
    clear hszW2
    clear cb10 cb11 cb12 cb13 cb14 cb15 cb16 cb17
    clear d0 d1 d2
    refine (radd_v k0.rq k6.rq (by omega) (by decide)).mono ?_
    rintro e w3 ⟨s7, A7, n7, c7, D7, m7, e7, rfl, k7, hb⟩
    replace k0 := k0.below hb
    replace k6 := k6.below hb
    replace b1 := b1.below hb
    replace b2 := b2.below hb
    replace b3 := b3.below hb
    replace H0 := H0.trans (hb.mono H0.size)
    clear hb
    clear k0
    clear k6
    obtain ⟨cb20, yb20, cb21, yb21, cb22, yb22⟩ := b2.cf3
    go_wp2_with fail
    clear cb20 yb20 cb21 yb21 cb22 yb22
    have hg := only_store3 w3 (w.heap.size + 1) (.bool s7) (.slice A7 n7 c7) (.slice D7 m7 e7)
    have hB := b2.stored3 (.bool s7) (.slice A7 n7 c7) (.slice D7 m7 e7)
    generalize hX : (((w3.setCell ⟨w.heap.size + 1, 0, none⟩ (.bool s7)).setCell ⟨w.heap.size + 1, 1, none⟩ (.slice A7 n7 c7)).setCell ⟨w.heap.size + 1, 2, none⟩ (.slice D7 m7 e7)) = X4 at hg hB ⊢
    clear hX
    replace k7 := k7.kept b2 (by simp [notInt]) hg
    replace b1 := b1.other hg (by omega)
    replace b3 := b3.other hg (by omega)
    replace b2 := hB
    replace H0 := below_only H0 hg (by omega) H0.size
    clear hg hB
    refine bodyPost_ret (ret_rat rfl rfl b2) rfl ?_
    exact ⟨s7, A7, n7, c7, D7, m7, e7, rfl, k7.more (by omega), H0⟩
  · obtain ⟨rfl, k0⟩ := x0.yes rfl
    obtain ⟨rfl, k1⟩ := x1.yes rfl
    clear x0 x1
    go_enter Tryz.func78, Tryz.ntmps78
    go_wp2_with fail
    obtain ⟨W0, hW, b1, b2, hbW, hszW0⟩ := boxes2 w #[.bool s0, .slice A0 n0 c0, .slice D0 m0 e0, .bool s1, .slice A1 n1 c1, .slice D1 m1 e1, .bool false, .bool false] #[.bool false, .slice none 0 0, .slice none 0 0] 32 28
    rw [hW]
    clear hW
    replace k0 := k0.below hbW
    replace k1 := k1.below hbW
    have H0 := hbW
    clear hbW
    clear hszW0
    refine (rfromint_v 1 (by decide) (by decide) _).mono ?_
    rintro e w1 ⟨s6, A6, n6, c6, D6, m6, e6, rfl, k6, hb⟩
    replace k0 := k0.below hb
    replace k1 := k1.below hb
    replace b1 := b1.below hb
    replace b2 := b2.below hb
    replace H0 := H0.trans (hb.mono H0.size)
    clear hb
    have lb1_2 := b1.lt
    have lb2_2 := b2.lt
    obtain ⟨W2, hW, b3, hbW, hszW2⟩ := boxes1 w1 #[.bool s6, .slice A6 n6 c6, .slice D6 m6 e6] 28
    skip
    skip
    replace k0 := k0.below hbW
    replace k1 := k1.below hbW
    replace k6 := k6.below hbW
    replace b1 := b1.below hbW
    replace b2 := b2.below hbW
    replace H0 := H0.trans (hbW.mono H0.size)
    clear hbW
    obtain ⟨cb10, cb11, cb12, cb13, cb14, cb15, cb16, cb17⟩ := b1.cells8
    obtain ⟨d0, d1, d2⟩ := b3.cells3
    go_wp2_with fail
    clear hW
    clear hszW2
    clear cb10 cb11 cb12 cb13 cb14 cb15 cb16 cb17
    clear d0 d1 d2
    refine (rmiddle_v k0.rq k1.rq (by omega) (by omega)).mono ?_
    rintro e w3 ⟨s7, A7, n7, c7, D7, m7, e7, rfl, k7, hb⟩
    replace k0 := k0.below hb
    replace k1 := k1.below hb
    replace k6 := k6.below hb
    replace b1 := b1.below hb
    replace b2 := b2.below hb
    replace b3 := b3.below hb
    replace H0 := H0.trans (hb.mono H0.size)
    clear hb
    clear k0
    clear k1
    clear k6
    obtain ⟨cb20, yb20, cb21, yb21, cb22, yb22⟩ := b2.cf3
    go_wp2_with fail
    clear cb20 yb20 cb21 yb21 cb22 yb22
    have hg := only_store3 w3 (w.heap.size + 1) (.bool s7) (.slice A7 n7 c7) (.slice D7 m7 e7)
    have hB := b2.stored3 (.bool s7) (.slice A7 n7 c7) (.slice D7 m7 e7)
    generalize hX : (((w3.setCell ⟨w.heap.size + 1, 0, none⟩ (.bool s7)).setCell ⟨w.heap.size + 1, 1, none⟩ (.slice A7 n7 c7)).setCell ⟨w.heap.size + 1, 2, none⟩ (.slice D7 m7 e7)) = X4 at hg hB ⊢
    clear hX
    replace k7 := k7.kept b2 (by simp [notInt]) hg
    replace b1 := b1.other hg (by omega)
    replace b3 := b3.other hg (by omega)
    replace b2 := hB
    replace H0 := below_only H0 hg (by omega) H0.size
    clear hg hB
    refine bodyPost_ret (ret_rat rfl rfl b2) rfl ?_
    exact ⟨s7, A7, n7, c7, D7, m7, e7, rfl, k7.more (by omega), H0⟩
set_option maxRecDepth 100000 in
set_option maxHeartbeats 4000000 in
theorem samples_v {v : Value} (hS : SpS w L v l) (hok : OkS l) (hsep : SepS l) (hn : l.length ≤ 4096) (hL : L ≤ 1000) :
    Calls Tryz.prog 37 #[v] w fun e w' => ∃ y, e = .returned (.tuple #[y, .nilIface]) ∧ NS w' (2 * max L 2 + 2) y (l.map samS) ∧ Below w.heap.size w w' := by
  have HS := Lib.hid hS
  obtain ⟨A, c, rfl, hc1, hc2⟩ := hS.form
  unfold maxLen at hc2
  go_enter Tryz.func37, Tryz.ntmps37
  go_wp2_with fail
  refine (valid_v hS hok hsep hn (by omega)).mono ?_
  rintro e w1 ⟨rfl, hb1⟩
  clear hS hok hsep
  go_wp2_with fail
  go_loopw [4, 13] (fun t4 t13 wr => ∃ (i : Nat) (A9 : Option Addr) (c9 : Nat) (css : List (List Value)), i ≤ l.length ∧ t13 = .int .i64 (i : Int) ∧ t4 = .slice A9 css.length c9 ∧ OwnE wr w.heap.size 28 3 (.slice A9 css.length c9) css ∧ NL wr (2 * max L 2 + 2) css ((l.take i).map samS) ∧ Below w.heap.size w wr) (fun _ t13 _ => l.length - (intOf t13).toNat)
  case atStart => exact ⟨0, none, 0, [], Nat.zero_le _, rfl, rfl, OwnE.nil _ _ _ _, trivial, hb1⟩
  case round =>
    clear hb1
    obtain ⟨i, A9, c9, css, hi, rfl, rfl, hown, hall, H0⟩ := hrel
    have hcl : css.length ≤ i := by have h1 := All2.len hall; rw [List.length_map] at h1; have h3 : (l.take i).length ≤ i := List.length_take_le _ _; omega
    by_cases hlt : i < l.length
    · obtain ⟨sp, hsp⟩ : ∃ s, l[i]? = some s := ⟨_, List.getElem?_eq_getElem hlt⟩
      obtain ⟨g, o, s0, A0, n0, c0, D0, m0, e0, s1, A1, n1, c1, D1, m1, e1, f0, h0, rfl, cc0, cc1, cc2, cc3, cc4, cc5, cc6, cc7, y0, y1⟩ := (HS.out.below H0).elem hsp
      have HSP : Hid ((l.take (i + 1)).map samS = (l.take i).map samS ++ [samS sp]) := Lib.hid (by rw [List.take_add_one, hsp, List.map_append]; rfl)
      clear hsp
      obtain ⟨W0, hW, b6, hbW, hsz⟩ := boxes1 wr #[.bool s0, .slice A0 n0 c0, .slice D0 m0 e0, .bool s1, .slice A1 n1 c1, .slice D1 m1 e1, .bool f0, .bool h0] 32
      clear hsz
      replace hown := hown.below hbW
      replace hall := hall.below hbW
      replace y0 := y0.below hbW
      replace y1 := y1.below hbW
      replace H0 := H0.trans (hbW.mono H0.size)
      obtain ⟨x0, x1, x2, x3, x4, x5, x6, x7⟩ := b6.cells8
      go_wp2_with fail
      clear hW hbW b6 x0 cc0 x1 cc1 x2 cc2 x3 cc3 x4 cc4 x5 cc5 x6 cc6 x7 cc7
      refine (sample_v y0 y1 (by omega)).mono ?_
      rintro e w5 ⟨s1, A1, n1, c1, D1, m1, e1, rfl, k1, hb⟩
      replace hown := hown.below hb
      replace hall := hall.below hb
      replace H0 := H0.trans (hb.mono H0.size)
      clear hb y0 y1
      have hq1 : ([.bool s1, .slice A1 n1 c1, .slice D1 m1 e1] : List Value).all (fun u => u.oneCell' && notInt u) = true := by simp [notInt, Value.oneCell']
      have ln1 : css.length ≤ 100000 := by omega
      have lB1 : w.heap.size ≤ w5.heap.size := H0.size
      go_wp2_with (at_builtin; refine wpList_append_row (v := .slice A9 css.length c9) (css := css) rfl _ _ rfl elem_rat w.heap.size [.bool s1, .slice A1 n1 c1, .slice D1 m1 e1] rfl hown rfl rfl hq1 ln1 lB1 ?_; intro v1 w6 hown1 hg1)
      have hall1 : NL w6 (2 * max L 2 + 2) (css ++ [([.bool s1, .slice A1 n1 c1, .slice D1 m1 e1] : List Value)]) ((l.take i).map samS ++ [samS ⟨sp.lo, sp.hi⟩]) := All2.snoc (hall.own hown hg1) ⟨_, _, _, _, _, _, _, rfl, (firm_nq _ _ _ _ _).own k1 hown.2.2 hg1⟩
      have H01 := H0.trans (hown.trod hg1 lB1)
      generalize css ++ [([.bool s1, .slice A1 n1 c1, .slice D1 m1 e1] : List Value)] = cs1_ at hown1 hall1
      obtain ⟨A1_, c1_, rfl, hx1, hx2⟩ := hown1.form
      clear hx1 hx2 hown hall k1 hg1 H0 ln1 lB1 hcl hq1
      go_wp2_with fail
      go_roundw
      case rel => exact ⟨i + 1, _, _, _, by omega, by go_num, rfl, hown1, by rw [HSP.out]; exact hall1, H01⟩
      case measure => simp [intOf]; omega
    · obtain rfl : i = l.length := by omega
      rw [List.take_length] at hall
      go_wp2_with fail
      go_returns
      exact ⟨_, rfl, ⟨_, hown.read, hall⟩, H0⟩
end
end Go.Proofs.YtpgkkkodniiilaaGreatDoor
namespace Go.Proofs.YtpgkkkodniiilaaGreatDoor
open List (getElem_toArray getElem_cons_succ getElem_cons_zero setIfInBounds_toArray set_cons_zero set_cons_succ)
open Go.RowKit
section
variable {f0 h0 f1 h1 f2 h2 f3 h3 f4 h4 f5 h5 f6 h6 f7 h7 f8 h8 f9 h9 f10 h10 f11 h11 : Bool} {A0 A1 A6 A7 A8 A9 D0 D1 D6 D7 D8 D9 : Option Addr} {n0 n1 n6 n7 n8 n9 c0 c1 c2 c3 c4 c5 c6 c7 c8 c9 m0 m1 m6 m7 m8 m9 e0 e1 e2 e3 e4 e6 e7 e8 e9 : Nat} {s0 s1 s6 s7 s8 s9 : Bool} {q0 q1 q2 q3 q4 q5 q6 q7 : Rat} {z0 z1 z2 z3 z4 z5 z6 z7 z8 z9 z10 z11 : Int} {L L0 L1 x y : Nat} {k : Int} {w : World}
variable {o0 o1 o2 o3 : Option Rat} {l l' : List Sp}
theorem sr_flag {s : Sp} {s0 s1 f h : Bool} {v u v' u' : Value} (hno : bothB s = false) (y0 : EndP w L s0 v u f s.lo) (y1 : EndP w L0 s1 v' u' h s.hi) : (f || h) = true := by
  rcases y0 with ⟨rfl, q, e1, _⟩ | ⟨rfl, _⟩
  · rcases y1 with ⟨rfl, q', e2, _⟩ | ⟨rfl, _⟩
    · unfold bothB at hno; rw [e1, e2] at hno; cases hno
    · rfl
  · rfl
theorem sp_flag {s : Sp} {s0 s1 f h : Bool} {v u v' u' : Value} (hno : bothB s = false) (y0 : EndV w L s0 v u f s.lo) (y1 : EndV w L0 s1 v' u' h s.hi) : (f || h) = true := by
  rcases y0 with ⟨rfl, q, e1, _⟩ | ⟨rfl, _⟩
  · rcases y1 with ⟨rfl, q', e2, _⟩ | ⟨rfl, _⟩
    · unfold bothB at hno; rw [e1, e2] at hno; cases hno
    · rfl
  · rfl
set_option maxRecDepth 100000 in
set_option maxHeartbeats 4000000 in
theorem rlen_yes {v : Value} (hS : SrS w L v l) (hB : BothS l) (hn : l.length ≤ 8) (hL : L ≤ 5) :
    Calls Tryz.prog 39 #[v] w fun e w' => ∃ s9 A9 n9 c9 D9 m9 e9, e = .returned (.tuple #[.agg #[.bool s9, .slice A9 n9 c9, .slice D9 m9 e9], .bool true]) ∧ PQ w' s9 (.slice A9 n9 c9) (.slice D9 m9 e9) (sumS l) 97 ∧ Below w.heap.size w w' := by
  have HS := Lib.hid hS
  have HB := Lib.hid hB
  obtain ⟨A, c, rfl, hc1, hc2⟩ := hS.form
  unfold maxLen at hc2
  clear hS hB
  obtain ⟨V0, hV, b2, b4, hbV, hszV⟩ := boxes2 w #[.bool false, .slice none 0 0, .slice none 0 0] #[.bool false, .slice none 0 0, .slice none 0 0] 37 37
  go_enter Tryz.func39, Tryz.ntmps39
  go_wp2_with fail
  clear hV hszV
  go_loopw [9] (fun t9 wr => ∃ (i : Nat), ∃ (s9 : Bool), ∃ (A9 : Option Addr), ∃ (n9 : Nat), ∃ (c9 : Nat), ∃ (D9 : Option Addr), ∃ (m9 : Nat), ∃ (e9 : Nat), i ≤ l.length ∧ t9 = .int .i64 (i : Int) ∧ Box wr w.heap.size #[.bool false, .slice none 0 0, .slice none 0 0] 37 ∧ Box wr (w.heap.size + 1) #[.bool s9, .slice A9 n9 c9, .slice D9 m9 e9] 37 ∧ PQ wr s9 (.slice A9 n9 c9) (.slice D9 m9 e9) (sumS (l.take i)) (1 + 12 * i) ∧ Below w.heap.size w wr) (fun t9 _ => l.length - (intOf t9).toNat)
  case atStart => exact ⟨0, false, none, 0, 0, none, 0, 0, Nat.zero_le _, rfl, b2, b4, PQ.zero _, hbV⟩
  case round =>
    clear b2 b4 hbV
    obtain ⟨i, s9, A9, n9, c9, D9, m9, e9, hi, rfl, b2, b4, ks, H0⟩ := hrel
    by_cases hlt : i < l.length
    · obtain ⟨sp, hsp⟩ : ∃ s, l[i]? = some s := ⟨_, List.getElem?_eq_getElem hlt⟩
      obtain ⟨a, b, rfl⟩ := HB.out sp (List.mem_of_getElem? hsp)
      obtain ⟨g, o, s0, A0, n0, c0, D0, m0, e0, s1, A1, n1, c1, D1, m1, e1, f0, h0, rfl, cc0, cc1, cc2, cc3, cc4, cc5, cc6, cc7, y0, y1⟩ := (HS.out.below H0).elem hsp
      have HSP := Lib.hid (sumS_take hsp)
      clear hsp
      have LW4 := Lib.hid b4.lt
      obtain ⟨W0, hW, b6, hbW, hsz⟩ := boxes1 wr #[.bool s0, .slice A0 n0 c0, .slice D0 m0 e0, .bool s1, .slice A1 n1 c1, .slice D1 m1 e1, .bool f0, .bool h0] 39
      clear hsz
      replace b2 := b2.below hbW
      replace b4 := b4.below hbW
      replace ks := ks.below hbW
      replace y0 := y0.below hbW
      replace y1 := y1.below hbW
      replace H0 := H0.trans (hbW.mono H0.size)
      obtain ⟨x0, x1, x2, x3, x4, x5, x6, x7⟩ := b6.cells8
      go_upto_region 5 with fail
      clear hW hbW x0 cc0 x1 cc1 x2 cc2 x3 cc3 x4 cc4 x5 cc5 x6 cc6 x7 cc7
      obtain ⟨rfl, k0⟩ := y0.yes rfl
      obtain ⟨rfl, k1⟩ := y1.yes rfl
      clear y0 y1
      obtain ⟨x0, x1, x2, x3, x4, x5, x6, x7⟩ := b6.cells8
      go_wp2_with fail
      clear x0 x1 x2 x3 x4 x5 x6 x7
      have lw4 := LW4.out
      have hD := drawn_below W0
      replace ks := ks.below hD
      replace k0 := k0.below hD
      replace k1 := k1.below hD
      replace b2 := b2.below hD
      replace b4 := b4.below hD
      replace b6 := b6.below hD
      replace H0 := H0.trans (hD.mono H0.size)
      clear hD
      refine wp_region_noPanic ?_
      refine wp_region_F (S := (fun V => V.cell? ⟨w.heap.size + 1, 0, none⟩ = some (.bool s9) ∧ V.cell? ⟨w.heap.size + 1, 1, none⟩ = some (.slice A9 n9 c9) ∧ V.cell? ⟨w.heap.size + 1, 2, none⟩ = some (.slice D9 m9 e9) ∧ V.cell? ⟨wr.heap.size, 0, none⟩ = some (.bool s0) ∧ V.cell? ⟨wr.heap.size, 1, none⟩ = some (.slice A0 n0 c0) ∧ V.cell? ⟨wr.heap.size, 2, none⟩ = some (.slice D0 m0 e0) ∧ V.cell? ⟨wr.heap.size, 3, none⟩ = some (.bool s1) ∧ V.cell? ⟨wr.heap.size, 4, none⟩ = some (.slice A1 n1 c1) ∧ V.cell? ⟨wr.heap.size, 5, none⟩ = some (.slice D1 m1 e1) ∧ V.cell? ⟨wr.heap.size, 6, none⟩ = some (.bool false) ∧ V.cell? ⟨wr.heap.size, 7, none⟩ = some (.bool false))) (F := (fun j => j == 7)) (by kernel_rfl) ?_
      generalize W0.drew = v200 at H0 ks k0 k1 b2 b4 b6 ⊢
      refine wpAnyF_take (i := 0) (v := ?_) (fun j => j == 6 || j == 7) rfl (by kernel_rfl) (by kernel_rfl) (by kernel_rfl) (by kernel_rfl) (fun j hj => by have h6 : 8 ≤ j := hj; simp; omega) (fun _ _ _ h => h) (Or.inl ⟨by rfl, ?_⟩) (b4.and3 (b6.all8)) ?_
      rotate_left
      · (intro w hSw; (try dsimp only at hSw); go_simp; (try with_reducible rfl))
      (try simp only [getElem_toArray, getElem_cons_zero, Act.put, setIfInBounds_toArray, set_cons_zero, set_cons_succ])
      refine wpAnyF_take (i := 1) (v := ?_) (fun j => j == 2 || j == 5 || j == 6 || j == 7) rfl (by kernel_rfl) (by kernel_rfl) (by kernel_rfl) (by kernel_rfl) (fun j hj => by have h6 : 8 ≤ j := hj; simp; omega) (fun _ _ _ h => h) (Or.inl ⟨by rfl, ?_⟩) (b4.and3 (b6.all8)) ?_
      rotate_left
      · (intro w hSw; (try dsimp only at hSw); go_simp; (try with_reducible rfl))
      (try simp only [getElem_toArray, getElem_cons_succ, getElem_cons_zero, Act.put, setIfInBounds_toArray, set_cons_zero, set_cons_succ])
      refine wpAnyF_take (i := 3) (v := ?_) (fun j => j == 4 || j == 5 || j == 6 || j == 7) rfl (by kernel_rfl) (by kernel_rfl) (by kernel_rfl) (by kernel_rfl) (fun j hj => by have h6 : 8 ≤ j := hj; simp; omega) (fun _ _ _ h => h) (Or.inl ⟨by rfl, ?_⟩) (b4.and3 (b6.all8)) ?_
      rotate_left
      · (intro w hSw; (try dsimp only at hSw); go_simp; (try with_reducible rfl))
      (try simp only [getElem_toArray, getElem_cons_succ, getElem_cons_zero, Act.put, setIfInBounds_toArray, set_cons_zero, set_cons_succ])
      refine wpAnyF_take (i := 2) (v := ?_) (fun j => j == 5 || j == 6 || j == 7) rfl (by kernel_rfl) (by kernel_rfl) (by kernel_rfl) (by kernel_rfl) (fun j hj => by have h6 : 8 ≤ j := hj; simp; omega) (fun _ _ _ h => h) (Or.inl ⟨by rfl, ?_⟩) (b4.and3 (b6.all8)) ?_
      rotate_left
      · (intro w hSw; (try dsimp only at hSw); go_simp; (try with_reducible rfl))
      (try simp only [getElem_toArray, getElem_cons_succ, getElem_cons_zero, Act.put, setIfInBounds_toArray, set_cons_zero, set_cons_succ])
      refine wpAnyF_take (i := 4) (v := ?_) (fun j => j == 5 || j == 6 || j == 7) rfl (by kernel_rfl) (by kernel_rfl) (by kernel_rfl) (by kernel_rfl) (fun j hj => by have h6 : 8 ≤ j := hj; simp; omega) (fun _ _ _ h => h) (Or.inl ⟨by rfl, ?_⟩) (b4.and3 (b6.all8)) ?_
      rotate_left
      · (intro w hSw; (try dsimp only at hSw); go_simp; (try with_reducible rfl))
      (try simp only [getElem_toArray, getElem_cons_succ, getElem_cons_zero, Act.put, setIfInBounds_toArray, set_cons_zero, set_cons_succ])
      refine wpAnyF_one (i := 5) (by kernel_rfl) rfl rfl (fun K hK => ?_)
      go_simp
      go_at_call 82
      refine (nqsub_v k1 k0 (by omega) (by omega)).mono ?_
      rintro e w201 ⟨s7, A7, n7, c7, D7, m7, e7, rfl, k7, hb⟩
      replace ks := ks.below hb
      replace k0 := k0.below hb
      replace k1 := k1.below hb
      replace b2 := b2.below hb
      replace b4 := b4.below hb
      replace b6 := b6.below hb
      replace H0 := H0.trans (hb.mono H0.size)
      clear hb
      clear k0
      clear k1
      go_wp2_with fail
      refine hK.out _ _ (b4.and3 (b6.all8)) ?_
      clear hK K
      (try simp only [getElem_toArray, getElem_cons_succ, getElem_cons_zero, Act.put, setIfInBounds_toArray, set_cons_zero, set_cons_succ])
      refine wpAnyF_one (i := 6) (by kernel_rfl) rfl rfl (fun K hK => ?_)
      go_simp
      go_at_call 32
      refine (nplus_v ks k7 (by omega) (by omega)).mono ?_
      rintro e w202 ⟨s8, A8, n8, c8, D8, m8, e8, rfl, k8, hb⟩
      replace ks := ks.below hb
      replace k7 := k7.below hb
      replace b2 := b2.below hb
      replace b4 := b4.below hb
      replace b6 := b6.below hb
      replace H0 := H0.trans (hb.mono H0.size)
      clear hb
      clear ks
      clear k7
      go_wp2_with fail
      refine hK.out _ _ (b4.and3 (b6.all8)) ?_
      clear hK K
      (try simp only [getElem_toArray, getElem_cons_succ, getElem_cons_zero, Act.put, setIfInBounds_toArray, set_cons_zero, set_cons_succ])
      obtain ⟨cb40, yb40, cb41, yb41, cb42, yb42⟩ := b4.cf3
      refine wpAnyF_last (i := 7) (by kernel_rfl) rfl rfl (fun K hK => ?_)
      go_simp
      refine hK.out _ _ ?_
      clear hK K
      (try simp only [getElem_toArray, getElem_cons_succ, getElem_cons_zero, Act.put, setIfInBounds_toArray, set_cons_zero, set_cons_succ])
      clear cb40 yb40 cb41 yb41 cb42 yb42
      have hg := only_store3 w202 (w.heap.size + 1) (.bool s8) (.slice A8 n8 c8) (.slice D8 m8 e8)
      have hB := b4.stored3 (.bool s8) (.slice A8 n8 c8) (.slice D8 m8 e8)
      generalize hX : (((w202.setCell ⟨w.heap.size + 1, 0, none⟩ (.bool s8)).setCell ⟨w.heap.size + 1, 1, none⟩ (.slice A8 n8 c8)).setCell ⟨w.heap.size + 1, 2, none⟩ (.slice D8 m8 e8)) = X203 at hg hB ⊢
      clear hX
      replace k8 := k8.kept b4 (by simp [notInt]) hg
      replace b2 := b2.other hg (by omega)
      replace b6 := b6.other hg (by omega)
      replace b4 := hB
      replace H0 := below_only H0 hg (by omega) H0.size
      clear hg hB
      refine wpAny_done (by kernel_rfl) ?_ _
      refine NoPanic.normal ?_
      go_wp2_with fail
      rw [← HSP.out] at k8
      go_roundw
      case rel => exact ⟨i + 1, s8, A8, n8, c8, D8, m8, e8, by omega, by go_num, b2, b4, k8.more (by omega), H0⟩
      case measure => simp [intOf]; omega
    · obtain rfl : i = l.length := by omega
      rw [List.take_length] at ks
      obtain ⟨cb40, cb41, cb42⟩ := b4.cells3
      clear cb40 cb41 cb42
      obtain ⟨cb40, cb41, cb42⟩ := b4.cells3
      obtain ⟨cb20, yb20, cb21, yb21, cb22, yb22⟩ := b2.cf3
      go_wp2_with fail
      clear cb40 cb41 cb42 cb20 yb20 cb21 yb21 cb22 yb22
      have hg := only_store3 wr (w.heap.size) (.bool s9) (.slice A9 n9 c9) (.slice D9 m9 e9)
      have hB := b2.stored3 (.bool s9) (.slice A9 n9 c9) (.slice D9 m9 e9)
      generalize hX : (((wr.setCell ⟨w.heap.size, 0, none⟩ (.bool s9)).setCell ⟨w.heap.size, 1, none⟩ (.slice A9 n9 c9)).setCell ⟨w.heap.size, 2, none⟩ (.slice D9 m9 e9)) = X400 at hg hB ⊢
      clear hX
      replace ks := ks.kept b2 (by simp [notInt]) hg
      replace b4 := b4.other hg (by omega)
      replace b2 := hB
      replace H0 := below_only H0 hg (by omega) H0.size
      clear hg hB
      refine bodyPost_ret (ret_numq_b rfl rfl b2) rfl ?_
      exact ⟨s9, A9, n9, c9, D9, m9, e9, rfl, ks.more (by omega), H0⟩
set_option maxRecDepth 100000 in
set_option maxHeartbeats 4000000 in
theorem rlen_no {v : Value} {m : Nat} {s : Sp} (hS : SrS w L v l) (hB : BothS (l.take m)) (hmi : l[m]? = some s) (hno : bothB s = false) (hn : m ≤ 8) (hL : L ≤ 5) :
    Calls Tryz.prog 39 #[v] w fun e w' => e = .returned (.tuple #[.agg #[.bool false, .slice none 0 0, .slice none 0 0], .bool false]) ∧ Below w.heap.size w w' := by
  have HS := Lib.hid hS
  have HB := Lib.hid hB
  obtain ⟨A, c, rfl, hc1, hc2⟩ := hS.form
  unfold maxLen at hc2
  clear hS hB
  have HMI := Lib.hid hmi
  have hml := (List.getElem?_eq_some_iff.1 hmi).1
  clear hmi
  obtain ⟨V0, hV, b2, b4, hbV, hszV⟩ := boxes2 w #[.bool false, .slice none 0 0, .slice none 0 0] #[.bool false, .slice none 0 0, .slice none 0 0] 37 37
  go_enter Tryz.func39, Tryz.ntmps39
  go_wp2_with fail
  clear hV hszV
  go_loopw [9] (fun t9 wr => ∃ (i : Nat), ∃ (s9 : Bool), ∃ (A9 : Option Addr), ∃ (n9 : Nat), ∃ (c9 : Nat), ∃ (D9 : Option Addr), ∃ (m9 : Nat), ∃ (e9 : Nat), i ≤ m ∧ t9 = .int .i64 (i : Int) ∧ Box wr w.heap.size #[.bool false, .slice none 0 0, .slice none 0 0] 37 ∧ Box wr (w.heap.size + 1) #[.bool s9, .slice A9 n9 c9, .slice D9 m9 e9] 37 ∧ PQ wr s9 (.slice A9 n9 c9) (.slice D9 m9 e9) (sumS (l.take i)) (1 + 12 * i) ∧ Below w.heap.size w wr) (fun t9 _ => l.length - (intOf t9).toNat)
  case atStart => exact ⟨0, false, none, 0, 0, none, 0, 0, Nat.zero_le _, rfl, b2, b4, PQ.zero _, hbV⟩
  case round =>
    clear b2 b4 hbV
    obtain ⟨i, s9, A9, n9, c9, D9, m9, e9, hi, rfl, b2, b4, ks, H0⟩ := hrel
    by_cases hlt : i < m
    · have hll : i < l.length := by omega
      obtain ⟨sp, hsp⟩ : ∃ s, l[i]? = some s := ⟨_, List.getElem?_eq_getElem hll⟩
      obtain ⟨a, b, rfl⟩ := HB.out sp (List.mem_of_getElem? (show (l.take m)[i]? = some sp by rw [List.getElem?_take, if_pos hlt]; exact hsp))
      obtain ⟨g, o, s0, A0, n0, c0, D0, m0, e0, s1, A1, n1, c1, D1, m1, e1, f0, h0, rfl, cc0, cc1, cc2, cc3, cc4, cc5, cc6, cc7, y0, y1⟩ := (HS.out.below H0).elem hsp
      have HSP := Lib.hid (sumS_take hsp)
      clear hsp
      have LW4 := Lib.hid b4.lt
      obtain ⟨W0, hW, b6, hbW, hsz⟩ := boxes1 wr #[.bool s0, .slice A0 n0 c0, .slice D0 m0 e0, .bool s1, .slice A1 n1 c1, .slice D1 m1 e1, .bool f0, .bool h0] 39
      clear hsz
      replace b2 := b2.below hbW
      replace b4 := b4.below hbW
      replace ks := ks.below hbW
      replace y0 := y0.below hbW
      replace y1 := y1.below hbW
      replace H0 := H0.trans (hbW.mono H0.size)
      obtain ⟨x0, x1, x2, x3, x4, x5, x6, x7⟩ := b6.cells8
      go_upto_region 5 with fail
      clear hW hbW x0 cc0 x1 cc1 x2 cc2 x3 cc3 x4 cc4 x5 cc5 x6 cc6 x7 cc7
      obtain ⟨rfl, k0⟩ := y0.yes rfl
      obtain ⟨rfl, k1⟩ := y1.yes rfl
      clear y0 y1
      obtain ⟨x0, x1, x2, x3, x4, x5, x6, x7⟩ := b6.cells8
      go_wp2_with fail
      clear x0 x1 x2 x3 x4 x5 x6 x7
      have lw4 := LW4.out
      have hD := drawn_below W0
      replace ks := ks.below hD
      replace k0 := k0.below hD
      replace k1 := k1.below hD
      replace b2 := b2.below hD
      replace b4 := b4.below hD
      replace b6 := b6.below hD
      replace H0 := H0.trans (hD.mono H0.size)
      clear hD
      refine wp_region_noPanic ?_
      refine wp_region_F (S := (fun V => V.cell? ⟨w.heap.size + 1, 0, none⟩ = some (.bool s9) ∧ V.cell? ⟨w.heap.size + 1, 1, none⟩ = some (.slice A9 n9 c9) ∧ V.cell? ⟨w.heap.size + 1, 2, none⟩ = some (.slice D9 m9 e9) ∧ V.cell? ⟨wr.heap.size, 0, none⟩ = some (.bool s0) ∧ V.cell? ⟨wr.heap.size, 1, none⟩ = some (.slice A0 n0 c0) ∧ V.cell? ⟨wr.heap.size, 2, none⟩ = some (.slice D0 m0 e0) ∧ V.cell? ⟨wr.heap.size, 3, none⟩ = some (.bool s1) ∧ V.cell? ⟨wr.heap.size, 4, none⟩ = some (.slice A1 n1 c1) ∧ V.cell? ⟨wr.heap.size, 5, none⟩ = some (.slice D1 m1 e1) ∧ V.cell? ⟨wr.heap.size, 6, none⟩ = some (.bool false) ∧ V.cell? ⟨wr.heap.size, 7, none⟩ = some (.bool false))) (F := (fun j => j == 7)) (by kernel_rfl) ?_
      generalize W0.drew = v200 at H0 ks k0 k1 b2 b4 b6 ⊢
      refine wpAnyF_take (i := 0) (v := ?_) (fun j => j == 6 || j == 7) rfl (by kernel_rfl) (by kernel_rfl) (by kernel_rfl) (by kernel_rfl) (fun j hj => by have h6 : 8 ≤ j := hj; simp; omega) (fun _ _ _ h => h) (Or.inl ⟨by rfl, ?_⟩) (b4.and3 (b6.all8)) ?_
      rotate_left
      · (intro w hSw; (try dsimp only at hSw); go_simp; (try with_reducible rfl))
      (try simp only [getElem_toArray, getElem_cons_zero, Act.put, setIfInBounds_toArray, set_cons_zero, set_cons_succ])
      refine wpAnyF_take (i := 1) (v := ?_) (fun j => j == 2 || j == 5 || j == 6 || j == 7) rfl (by kernel_rfl) (by kernel_rfl) (by kernel_rfl) (by kernel_rfl) (fun j hj => by have h6 : 8 ≤ j := hj; simp; omega) (fun _ _ _ h => h) (Or.inl ⟨by rfl, ?_⟩) (b4.and3 (b6.all8)) ?_
      rotate_left
      · (intro w hSw; (try dsimp only at hSw); go_simp; (try with_reducible rfl))
      (try simp only [getElem_toArray, getElem_cons_succ, getElem_cons_zero, Act.put, setIfInBounds_toArray, set_cons_zero, set_cons_succ])
      refine wpAnyF_take (i := 3) (v := ?_) (fun j => j == 4 || j == 5 || j == 6 || j == 7) rfl (by kernel_rfl) (by kernel_rfl) (by kernel_rfl) (by kernel_rfl) (fun j hj => by have h6 : 8 ≤ j := hj; simp; omega) (fun _ _ _ h => h) (Or.inl ⟨by rfl, ?_⟩) (b4.and3 (b6.all8)) ?_
      rotate_left
      · (intro w hSw; (try dsimp only at hSw); go_simp; (try with_reducible rfl))
      (try simp only [getElem_toArray, getElem_cons_succ, getElem_cons_zero, Act.put, setIfInBounds_toArray, set_cons_zero, set_cons_succ])
      refine wpAnyF_take (i := 2) (v := ?_) (fun j => j == 5 || j == 6 || j == 7) rfl (by kernel_rfl) (by kernel_rfl) (by kernel_rfl) (by kernel_rfl) (fun j hj => by have h6 : 8 ≤ j := hj; simp; omega) (fun _ _ _ h => h) (Or.inl ⟨by rfl, ?_⟩) (b4.and3 (b6.all8)) ?_
      rotate_left
      · (intro w hSw; (try dsimp only at hSw); go_simp; (try with_reducible rfl))
      (try simp only [getElem_toArray, getElem_cons_succ, getElem_cons_zero, Act.put, setIfInBounds_toArray, set_cons_zero, set_cons_succ])
      refine wpAnyF_take (i := 4) (v := ?_) (fun j => j == 5 || j == 6 || j == 7) rfl (by kernel_rfl) (by kernel_rfl) (by kernel_rfl) (by kernel_rfl) (fun j hj => by have h6 : 8 ≤ j := hj; simp; omega) (fun _ _ _ h => h) (Or.inl ⟨by rfl, ?_⟩) (b4.and3 (b6.all8)) ?_
      rotate_left
      · (intro w hSw; (try dsimp only at hSw); go_simp; (try with_reducible rfl))
      (try simp only [getElem_toArray, getElem_cons_succ, getElem_cons_zero, Act.put, setIfInBounds_toArray, set_cons_zero, set_cons_succ])
      refine wpAnyF_one (i := 5) (by kernel_rfl) rfl rfl (fun K hK => ?_)
      go_simp
      go_at_call 82
      refine (nqsub_v k1 k0 (by omega) (by omega)).mono ?_
      rintro e w201 ⟨s7, A7, n7, c7, D7, m7, e7, rfl, k7, hb⟩
      replace ks := ks.below hb
      replace k0 := k0.below hb
      replace k1 := k1.below hb
      replace b2 := b2.below hb
      replace b4 := b4.below hb
      replace b6 := b6.below hb
      replace H0 := H0.trans (hb.mono H0.size)
      clear hb
      clear k0
      clear k1
      go_wp2_with fail
      refine hK.out _ _ (b4.and3 (b6.all8)) ?_
      clear hK K
      (try simp only [getElem_toArray, getElem_cons_succ, getElem_cons_zero, Act.put, setIfInBounds_toArray, set_cons_zero, set_cons_succ])
      refine wpAnyF_one (i := 6) (by kernel_rfl) rfl rfl (fun K hK => ?_)
      go_simp
      go_at_call 32
      refine (nplus_v ks k7 (by omega) (by omega)).mono ?_
      rintro e w202 ⟨s8, A8, n8, c8, D8, m8, e8, rfl, k8, hb⟩
      replace ks := ks.below hb
      replace k7 := k7.below hb
      replace b2 := b2.below hb
      replace b4 := b4.below hb
      replace b6 := b6.below hb
      replace H0 := H0.trans (hb.mono H0.size)
      clear hb
      clear ks
      clear k7
      go_wp2_with fail
      refine hK.out _ _ (b4.and3 (b6.all8)) ?_
      clear hK K
      (try simp only [getElem_toArray, getElem_cons_succ, getElem_cons_zero, Act.put, setIfInBounds_toArray, set_cons_zero, set_cons_succ])
      obtain ⟨cb40, yb40, cb41, yb41, cb42, yb42⟩ := b4.cf3
      refine wpAnyF_last (i := 7) (by kernel_rfl) rfl rfl (fun K hK => ?_)
      go_simp
      refine hK.out _ _ ?_
      clear hK K
      (try simp only [getElem_toArray, getElem_cons_succ, getElem_cons_zero, Act.put, setIfInBounds_toArray, set_cons_zero, set_cons_succ])
      clear cb40 yb40 cb41 yb41 cb42 yb42
      have hg := only_store3 w202 (w.heap.size + 1) (.bool s8) (.slice A8 n8 c8) (.slice D8 m8 e8)
      have hB := b4.stored3 (.bool s8) (.slice A8 n8 c8) (.slice D8 m8 e8)
      generalize hX : (((w202.setCell ⟨w.heap.size + 1, 0, none⟩ (.bool s8)).setCell ⟨w.heap.size + 1, 1, none⟩ (.slice A8 n8 c8)).setCell ⟨w.heap.size + 1, 2, none⟩ (.slice D8 m8 e8)) = X203 at hg hB ⊢
      clear hX
      replace k8 := k8.kept b4 (by simp [notInt]) hg
      replace b2 := b2.other hg (by omega)
      replace b6 := b6.other hg (by omega)
      replace b4 := hB
      replace H0 := below_only H0 hg (by omega) H0.size
      clear hg hB
      refine wpAny_done (by kernel_rfl) ?_ _
      refine NoPanic.normal ?_
      go_wp2_with fail
      rw [← HSP.out] at k8
      go_roundw
      case rel => exact ⟨i + 1, s8, A8, n8, c8, D8, m8, e8, by omega, by go_num, b2, b4, k8.more (by omega), H0⟩
      case measure => simp [intOf]; omega
    · obtain rfl : i = m := by omega
      obtain ⟨g, o, s0, A0, n0, c0, D0, m0, e0, s1, A1, n1, c1, D1, m1, e1, f0, h0, rfl, cc0, cc1, cc2, cc3, cc4, cc5, cc6, cc7, y0, y1⟩ := (HS.out.below H0).elem HMI.out
      have hfl : (f0 || h0) = true := sr_flag hno y0 y1
      clear y0 y1 ks
      obtain ⟨W0, hW, b6, hbW, hsz⟩ := boxes1 wr #[.bool s0, .slice A0 n0 c0, .slice D0 m0 e0, .bool s1, .slice A1 n1 c1, .slice D1 m1 e1, .bool f0, .bool h0] 39
      clear hsz
      replace b2 := b2.below hbW
      replace b4 := b4.below hbW
      replace H0 := H0.trans (hbW.mono H0.size)
      obtain ⟨x0, x1, x2, x3, x4, x5, x6, x7⟩ := b6.cells8
      go_upto_region 5 with fail
      have z0 := b2.cell 0 _ rfl
      have zf0 := b2.frozen 0
      have z1 := b2.cell 1 _ rfl
      have zf1 := b2.frozen 1
      have z2 := b2.cell 2 _ rfl
      have zf2 := b2.frozen 2
      clear hW hbW
      cases f0 <;> cases h0
      · cases hfl
      · go_wp2_with fail
        have hg := only_store3 W0 w.heap.size (.bool false) (.slice none 0 0) (.slice none 0 0)
        have hB := b2.stored3 (.bool false) (.slice none 0 0) (.slice none 0 0)
        refine bodyPost_ret (ret_numq_b rfl rfl hB) rfl ?_
        exact ⟨rfl, below_only H0 hg (Nat.le_refl _) H0.size⟩
      · go_wp2_with fail
        have hg := only_store3 W0 w.heap.size (.bool false) (.slice none 0 0) (.slice none 0 0)
        have hB := b2.stored3 (.bool false) (.slice none 0 0) (.slice none 0 0)
        refine bodyPost_ret (ret_numq_b rfl rfl hB) rfl ?_
        exact ⟨rfl, below_only H0 hg (Nat.le_refl _) H0.size⟩
      · go_wp2_with fail
        have hg := only_store3 W0 w.heap.size (.bool false) (.slice none 0 0) (.slice none 0 0)
        have hB := b2.stored3 (.bool false) (.slice none 0 0) (.slice none 0 0)
        refine bodyPost_ret (ret_numq_b rfl rfl hB) rfl ?_
        exact ⟨rfl, below_only H0 hg (Nat.le_refl _) H0.size⟩
set_option maxRecDepth 100000 in
set_option maxHeartbeats 4000000 in
theorem rsample_v (x0 : EndP w L s0 (.slice A0 n0 c0) (.slice D0 m0 e0) f0 o0) (x1 : EndP w L s1 (.slice A1 n1 c1) (.slice D1 m1 e1) h0 o1) (hL : L ≤ 40) :
    Calls Tryz.prog 41 #[.agg #[.bool s0, .slice A0 n0 c0, .slice D0 m0 e0, .bool s1, .slice A1 n1 c1, .slice D1 m1 e1, .bool f0, .bool h0]] w fun e w' => ∃ s7 A7 n7 c7 D7 m7 e7, e = .returned (.agg #[.bool s7, .slice A7 n7 c7, .slice D7 m7 e7]) ∧ PQ w' s7 (.slice A7 n7 c7) (.slice D7 m7 e7) (samS ⟨o0, o1⟩) (2 * max L 1 + 4) ∧ Below w.heap.size w w' := by
  rcases o0 with _ | p <;> rcases o1 with _ | p'
  · obtain rfl := x0.no rfl
    obtain rfl := x1.no rfl
    clear x0 x1
    go_enter Tryz.func41, Tryz.ntmps41
    go_wp2_with fail
    obtain ⟨W0, hW, b1, b2, hbW, hszW0⟩ := boxes2 w #[.bool s0, .slice A0 n0 c0, .slice D0 m0 e0, .bool s1, .slice A1 n1 c1, .slice D1 m1 e1, .bool true, .bool true] #[.bool false, .slice none 0 0, .slice none 0 0] 39 37
    rw [hW]
    clear hW
    have H0 := hbW
    clear hbW
    clear hszW0
    obtain ⟨cb10, cb11, cb12, cb13, cb14, cb15, cb16, cb17⟩ := b1.cells8
    obtain ⟨cb20, yb20, cb21, yb21, cb22, yb22⟩ := b2.cf3
    go_wp2_with fail
    clear cb10 cb11 cb12 cb13 cb14 cb15 cb16 cb17 cb20 yb20 cb21 yb21 cb22 yb22
    refine bodyPost_ret (ret_numq rfl rfl b2) rfl ?_
    exact ⟨false, none, 0, 0, none, 0, 0, rfl, PQ.zero _, H0⟩
  · obtain rfl := x0.no rfl
    obtain ⟨rfl, k1⟩ := x1.yes rfl
    clear x0 x1
    go_enter Tryz.func41, Tryz.ntmps41
    go_wp2_with fail
    obtain ⟨W0, hW, b1, b2, hbW, hszW0⟩ := boxes2 w #[.bool s0, .slice A0 n0 c0, .slice D0 m0 e0, .bool s1, .slice A1 n1 c1, .slice D1 m1 e1, .bool true, .bool false] #[.bool false, .slice none 0 0, .slice none 0 0] 39 37
    rw [hW]
    clear hW
    replace k1 := k1.below hbW
    have H0 := hbW
    clear hbW
    clear hszW0
    obtain ⟨cb10, cb11, cb12, cb13, cb14, cb15, cb16, cb17⟩ := b1.cells8
    go_wp2_with fail
    clear cb10 cb11 cb12 cb13 cb14 cb15 cb16 cb17
    have hD := drawn_below W0
    replace k1 := k1.below hD
    replace b1 := b1.below hD
    replace b2 := b2.below hD
    replace H0 := H0.trans (hD.mono H0.size)
    clear hD
    refine wp_region_noPanic ?_
    refine wp_region_held_drew (S := (fun V => V.cell? ⟨w.heap.size, 0, none⟩ = some (.bool s0) ∧ V.cell? ⟨w.heap.size, 1, none⟩ = some (.slice A0 n0 c0) ∧ V.cell? ⟨w.heap.size, 2, none⟩ = some (.slice D0 m0 e0) ∧ V.cell? ⟨w.heap.size, 3, none⟩ = some (.bool s1) ∧ V.cell? ⟨w.heap.size, 4, none⟩ = some (.slice A1 n1 c1) ∧ V.cell? ⟨w.heap.size, 5, none⟩ = some (.slice D1 m1 e1) ∧ V.cell? ⟨w.heap.size, 6, none⟩ = some (.bool true) ∧ V.cell? ⟨w.heap.size, 7, none⟩ = some (.bool false))) (by kernel_rfl) (b1.all8) (fun hHeld => ?_)
    generalize W0.drew = v1 at H0 hHeld k1 b1 b2 ⊢
    refine todo [0, 1] ?_
    iterate 2
      refine tkT ?_ rfl (by kernel_rfl) (fun _ _ _ h => h) (by rfl) (by assumption) ?_ ?_
      rotate_left
      · (intro w hSw; (try dsimp only at hSw); go_simp; (try with_reducible rfl))
      (try simp only [getElem_toArray, getElem_cons_succ, getElem_cons_zero, Act.put, setIfInBounds_toArray, set_cons_zero, set_cons_succ])
    refine tdone ?_
    refine rd1 2 (by kernel_rfl) rfl (fun K hK => ?_)
    go_simp
    go_at_call 42
    refine (nof_v 1 (by decide) (by decide) _).mono ?_
    rintro e w2 ⟨s6, A6, n6, c6, D6, m6, e6, rfl, k6, hb⟩
    replace k1 := k1.below hb
    replace b1 := b1.below hb
    replace b2 := b2.below hb
    replace H0 := H0.trans (hb.mono H0.size)
    clear hb
    go_wp2_with fail
    refine hK.out _ _ (b1.all8) (fun hHeld => ?_)
    clear hK K
    (try simp only [getElem_toArray, getElem_cons_succ, getElem_cons_zero, Act.put, setIfInBounds_toArray, set_cons_zero, set_cons_succ])
    refine rd1 3 (by kernel_rfl) rfl (fun K hK => ?_)
    go_simp
    go_at_call 82
    refine (nqsub_v k1 k6 (by omega) (by decide)).mono ?_
    rintro e w3 ⟨s7, A7, n7, c7, D7, m7, e7, rfl, k7, hb⟩
    replace k1 := k1.below hb
    replace k6 := k6.below hb
    replace b1 := b1.below hb
    replace b2 := b2.below hb
    replace H0 := H0.trans (hb.mono H0.size)
    clear hb
    clear k1
    clear k6
    go_wp2_with fail
    refine hK.out _ _ (b1.all8) (fun hHeld => ?_)
    clear hK K
    (try simp only [getElem_toArray, getElem_cons_succ, getElem_cons_zero, Act.put, setIfInBounds_toArray, set_cons_zero, set_cons_succ])
    obtain ⟨cb20, yb20, cb21, yb21, cb22, yb22⟩ := b2.cf3
    refine rd1 4 (by kernel_rfl) rfl (fun K hK => ?_)
    go_simp
    clear cb20 yb20 cb21 yb21 cb22 yb22
    have hg := only_store3 w3 (w.heap.size + 1) (.bool s7) (.slice A7 n7 c7) (.slice D7 m7 e7)
    have hB := b2.stored3 (.bool s7) (.slice A7 n7 c7) (.slice D7 m7 e7)
    generalize hX : (((w3.setCell ⟨w.heap.size + 1, 0, none⟩ (.bool s7)).setCell ⟨w.heap.size + 1, 1, none⟩ (.slice A7 n7 c7)).setCell ⟨w.heap.size + 1, 2, none⟩ (.slice D7 m7 e7)) = X4 at hg hB ⊢
    clear hX
    replace k7 := k7.kept b2 (by simp [notInt]) hg
    replace b1 := b1.other hg (by omega)
    replace b2 := hB
    replace H0 := below_only H0 hg (by omega) H0.size
    clear hg hB
    refine hK.out _ _ (b1.all8) (fun hHeld => ?_)
    clear hK K
    (try simp only [getElem_toArray, getElem_cons_succ, getElem_cons_zero, Act.put, setIfInBounds_toArray, set_cons_zero, set_cons_succ])
    refine wpAnyH_done (by kernel_rfl) ?_ _
    refine NoPanic.normal ?_
    go_wp2_with fail
    refine bodyPost_ret (ret_numq rfl rfl b2) rfl ?_
    exact ⟨s7, A7, n7, c7, D7, m7, e7, rfl, k7.more (by omega), H0⟩
  · obtain ⟨rfl, k0⟩ := x0.yes rfl
    obtain rfl := x1.no rfl
    clear x0 x1
    go_enter Tryz.func41, Tryz.ntmps41
    go_wp2_with fail
    obtain ⟨W0, hW, b1, b2, hbW, hszW0⟩ := boxes2 w #[.bool s0, .slice A0 n0 c0, .slice D0 m0 e0, .bool s1, .slice A1 n1 c1, .slice D1 m1 e1, .bool false, .bool true] #[.bool false, .slice none 0 0, .slice none 0 0] 39 37
    rw [hW]
    clear hW
    replace k0 := k0.below hbW
    have H0 := hbW
    clear hbW
    clear hszW0
    obtain ⟨cb10, cb11, cb12, cb13, cb14, cb15, cb16, cb17⟩ := b1.cells8
    go_wp2_with fail
    clear cb10 cb11 cb12 cb13 cb14 cb15 cb16 cb17
    have hD := drawn_below W0
    replace k0 := k0.below hD
    replace b1 := b1.below hD
    replace b2 := b2.below hD
    replace H0 := H0.trans (hD.mono H0.size)
    clear hD
    refine wp_region_noPanic ?_
    refine wp_region_held_drew (S := (fun V => V.cell? ⟨w.heap.size, 0, none⟩ = some (.bool s0) ∧ V.cell? ⟨w.heap.size, 1, none⟩ = some (.slice A0 n0 c0) ∧ V.cell? ⟨w.heap.size, 2, none⟩ = some (.slice D0 m0 e0) ∧ V.cell? ⟨w.heap.size, 3, none⟩ = some (.bool s1) ∧ V.cell? ⟨w.heap.size, 4, none⟩ = some (.slice A1 n1 c1) ∧ V.cell? ⟨w.heap.size, 5, none⟩ = some (.slice D1 m1 e1) ∧ V.cell? ⟨w.heap.size, 6, none⟩ = some (.bool false) ∧ V.cell? ⟨w.heap.size, 7, none⟩ = some (.bool true))) (by kernel_rfl) (b1.all8) (fun hHeld => ?_)
    generalize W0.drew = v1 at H0 hHeld k0 b1 b2 ⊢
    refine todo [0, 1] ?_
    iterate 2
      refine tkT ?_ rfl (by kernel_rfl) (fun _ _ _ h => h) (by rfl) (by assumption) ?_ ?_
      rotate_left
      · (intro w hSw; (try dsimp only at hSw); go_simp; (try with_reducible rfl))
      (try simp only [getElem_toArray, getElem_cons_succ, getElem_cons_zero, Act.put, setIfInBounds_toArray, set_cons_zero, set_cons_succ])
    refine tdone ?_
    refine rd1 2 (by kernel_rfl) rfl (fun K hK => ?_)
    go_simp
    go_at_call 42
    refine (nof_v 1 (by decide) (by decide) _).mono ?_
    rintro e w2 ⟨s6, A6, n6, c6, D6, m6, e6, rfl, k6, hb⟩
    replace k0 := k0.below hb
    replace b1 := b1.below hb
    replace b2 := b2.below hb
    replace H0 := H0.trans (hb.mono H0.size)
    clear hb
    go_wp2_with fail
    refine hK.out _ _ (b1.all8) (fun hHeld => ?_)
    clear hK K
    (try simp only [getElem_toArray, getElem_cons_succ, getElem_cons_zero, Act.put, setIfInBounds_toArray, set_cons_zero, set_cons_succ])
    refine rd1 3 (by kernel_rfl) rfl (fun K hK => ?_)
    go_simp
    go_at_call 32
    refine (nplus_v k0 k6 (by omega) (by decide)).mono ?_
    rintro e w3 ⟨s7, A7, n7, c7, D7, m7, e7, rfl, k7, hb⟩
    replace k0 := k0.below hb
    replace k6 := k6.below hb
    replace b1 := b1.below hb
    replace b2 := b2.below hb
    replace H0 := H0.trans (hb.mono H0.size)
    clear hb
    clear k0
    clear k6
    go_wp2_with fail
    refine hK.out _ _ (b1.all8) (fun hHeld => ?_)
    clear hK K
    (try simp only [getElem_toArray, getElem_cons_succ, getElem_cons_zero, Act.put, setIfInBounds_toArray, set_cons_zero, set_cons_succ])
    obtain ⟨cb20, yb20, cb21, yb21, cb22, yb22⟩ := b2.cf3
    refine rd1 4 (by kernel_rfl) rfl (fun K hK => ?_)
    go_simp
    clear cb20 yb20 cb21 yb21 cb22 yb22
    have hg := only_store3 w3 (w.heap.size + 1) (.bool s7) (.slice A7 n7 c7) (.slice D7 m7 e7)
    have hB := b2.stored3 (.bool s7) (.slice A7 n7 c7) (.slice D7 m7 e7)
    generalize hX : (((w3.setCell ⟨w.heap.size + 1, 0, none⟩ (.bool s7)).setCell ⟨w.heap.size + 1, 1, none⟩ (.slice A7 n7 c7)).setCell ⟨w.heap.size + 1, 2, none⟩ (.slice D7 m7 e7)) = X4 at hg hB ⊢
    clear hX
    replace k7 := k7.kept b2 (by simp [notInt]) hg
    replace b1 := b1.other hg (by omega)
    replace b2 := hB
    replace H0 := below_only H0 hg (by omega) H0.size
    clear hg hB
    refine hK.out _ _ (b1.all8) (fun hHeld => ?_)
    clear hK K
    (try simp only [getElem_toArray, getElem_cons_succ, getElem_cons_zero, Act.put, setIfInBounds_toArray, set_cons_zero, set_cons_succ])
    refine wpAnyH_done (by kernel_rfl) ?_ _
    refine NoPanic.normal ?_
    go_wp2_with fail
    refine bodyPost_ret (ret_numq rfl rfl b2) rfl ?_
    exact ⟨s7, A7, n7, c7, D7, m7, e7, rfl, k7.more (by omega), H0⟩
  · obtain ⟨rfl, k0⟩ := x0.yes rfl
    obtain ⟨rfl, k1⟩ := x1.yes rfl
    clear x0 x1
    go_enter Tryz.func41, Tryz.ntmps41
    go_wp2_with fail
    obtain ⟨W0, hW, b1, b2, hbW, hszW0⟩ := boxes2 w #[.bool s0, .slice A0 n0 c0, .slice D0 m0 e0, .bool s1, .slice A1 n1 c1, .slice D1 m1 e1, .bool false, .bool false] #[.bool false, .slice none 0 0, .slice none 0 0] 39 37
    rw [hW]
    clear hW
    replace k0 := k0.below hbW
    replace k1 := k1.below hbW
    have H0 := hbW
    clear hbW
    clear hszW0
    obtain ⟨cb10, cb11, cb12, cb13, cb14, cb15, cb16, cb17⟩ := b1.cells8
    go_wp2_with fail
    clear cb10 cb11 cb12 cb13 cb14 cb15 cb16 cb17
    refine (nmid_v k0 k1 hL hL).mono ?_
    rintro e w1 ⟨s7, A7, n7, c7, D7, m7, e7, rfl, k7, hb⟩
    replace k0 := k0.below hb
    replace k1 := k1.below hb
    replace b1 := b1.below hb
    replace b2 := b2.below hb
    replace H0 := H0.trans (hb.mono H0.size)
    clear hb
    clear k0
    clear k1
    obtain ⟨cb20, yb20, cb21, yb21, cb22, yb22⟩ := b2.cf3
    go_wp2_with fail
    clear cb20 yb20 cb21 yb21 cb22 yb22
    have hg := only_store3 w1 (w.heap.size + 1) (.bool s7) (.slice A7 n7 c7) (.slice D7 m7 e7)
    have hB := b2.stored3 (.bool s7) (.slice A7 n7 c7) (.slice D7 m7 e7)
    generalize hX : (((w1.setCell ⟨w.heap.size + 1, 0, none⟩ (.bool s7)).setCell ⟨w.heap.size + 1, 1, none⟩ (.slice A7 n7 c7)).setCell ⟨w.heap.size + 1, 2, none⟩ (.slice D7 m7 e7)) = X2 at hg hB ⊢
    clear hX
    replace k7 := k7.kept b2 (by simp [notInt]) hg
    replace b1 := b1.other hg (by omega)
    replace b2 := hB
    replace H0 := below_only H0 hg (by omega) H0.size
    clear hg hB
    refine bodyPost_ret (ret_numq rfl rfl b2) rfl ?_
    exact ⟨s7, A7, n7, c7, D7, m7, e7, rfl, k7.more (by omega), H0⟩
set_option maxRecDepth 100000 in
set_option maxHeartbeats 4000000 in
theorem lclos_t (hfl : (f0 || h0) = true) (w : World) :
    Calls Tryz.prog 80 #[.agg #[.bool s0, .slice A0 n0 c0, .slice D0 m0 e0, .bool s1, .slice A1 n1 c1, .slice D1 m1 e1, .bool f0, .bool h0]] w fun e w' => e = .returned (.bool true) ∧ Below w.heap.size w w' := by
  cases f0 <;> cases h0
  · cases hfl
  · clear hfl
    go_enter Tryz.func80, Tryz.ntmps80
    go_wp2_with fail
    obtain ⟨W0, hW, b0, hbW, hszW0⟩ := boxes1 w #[.bool s0, .slice A0 n0 c0, .slice D0 m0 e0, .bool s1, .slice A1 n1 c1, .slice D1 m1 e1, .bool false, .bool true] 32
    rw [hW]
    clear hW
    have H0 := hbW
    clear hbW
    obtain ⟨cb00, cb01, cb02, cb03, cb04, cb05, cb06, cb07⟩ := b0.cells8
    go_wp2_with fail
    go_returns
    exact ⟨rfl, H0⟩
  · clear hfl
    go_enter Tryz.func80, Tryz.ntmps80
    go_wp2_with fail
    obtain ⟨W0, hW, b0, hbW, hszW0⟩ := boxes1 w #[.bool s0, .slice A0 n0 c0, .slice D0 m0 e0, .bool s1, .slice A1 n1 c1, .slice D1 m1 e1, .bool true, .bool false] 32
    rw [hW]
    clear hW
    have H0 := hbW
    clear hbW
    obtain ⟨cb00, cb01, cb02, cb03, cb04, cb05, cb06, cb07⟩ := b0.cells8
    go_wp2_with fail
    go_returns
    exact ⟨rfl, H0⟩
  · clear hfl
    go_enter Tryz.func80, Tryz.ntmps80
    go_wp2_with fail
    obtain ⟨W0, hW, b0, hbW, hszW0⟩ := boxes1 w #[.bool s0, .slice A0 n0 c0, .slice D0 m0 e0, .bool s1, .slice A1 n1 c1, .slice D1 m1 e1, .bool true, .bool true] 32
    rw [hW]
    clear hW
    have H0 := hbW
    clear hbW
    obtain ⟨cb00, cb01, cb02, cb03, cb04, cb05, cb06, cb07⟩ := b0.cells8
    go_wp2_with fail
    go_returns
    exact ⟨rfl, H0⟩
set_option maxRecDepth 100000 in
set_option maxHeartbeats 4000000 in
theorem lindex_no {v : Value} {m : Nat} {s : Sp} (hS : SpS w L v l) (hB : BothS (l.take m)) (hmi : l[m]? = some s) (hno : bothB s = false) :
    Calls Tryz.prog 109 #[v, .func (.func 80) #[] #[]] w fun e w' => e = .returned (.int .i64 (m : Int)) ∧ Below w.heap.size w w' := by
  have HS := Lib.hid hS
  obtain ⟨A, c, rfl, hc1, hc2⟩ := hS.form
  unfold maxLen at hc2
  have HO := Lib.hid hB
  have HMI := Lib.hid hmi
  have hml := (List.getElem?_eq_some_iff.1 hmi).1
  clear hB hmi hS
  go_enter Tryz.func109, Tryz.ntmps109
  go_wp2_with fail
  go_loopw [5, 8] (fun _ t8 wr => ∃ i : Nat, i ≤ m ∧ t8 = .int .i64 i ∧ Below w.heap.size w wr) (fun _ t8 _ => l.length - (intOf t8).toNat)
  case atStart => exact ⟨0, Nat.zero_le _, rfl, Below.refl _ _⟩
  case round =>
    obtain ⟨i, hi, rfl, H0⟩ := hrel
    have hll : i < l.length := by omega
    by_cases hlt : i < m
    · obtain ⟨g, o, s0, A0, n0, c0, D0, m0, e0, s1, A1, n1, c1, D1, m1, e1, f0, h0, rfl, c0, c1, c2, c3, c4, c5, c6, c7, k0, k1⟩ := (HS.out.below H0).elem (List.getElem?_eq_getElem hll)
      obtain ⟨a, b, hab⟩ := HO.out _ (List.mem_of_getElem? (show (l.take m)[i]? = some _ by rw [List.getElem?_take, if_pos hlt]; exact List.getElem?_eq_getElem hll))
      obtain ⟨rfl, -⟩ := k0.yes (q := a) (by rw [hab])
      obtain ⟨rfl, -⟩ := k1.yes (q := b) (by rw [hab])
      clear hab k0 k1
      go_wp2_with fail
      refine (lclos_v _).mono ?_
      rintro e w1 ⟨rfl, hb⟩
      replace H0 := H0.trans (hb.mono H0.size)
      clear hb c0 c1 c2 c3 c4 c5 c6 c7
      go_wp2_with fail
      go_roundw
      case rel => exact ⟨i + 1, by omega, by go_num, H0⟩
      case measure => simp [intOf]; omega
    · obtain rfl : i = m := by omega
      obtain ⟨g, o, s0, A0, n0, c0, D0, m0, e0, s1, A1, n1, c1, D1, m1, e1, f0, h0, rfl, c0, c1, c2, c3, c4, c5, c6, c7, k0, k1⟩ := (HS.out.below H0).elem HMI.out
      have hfl : (f0 || h0) = true := sp_flag hno k0 k1
      clear k0 k1
      go_wp2_with fail
      refine (lclos_t hfl _).mono ?_
      rintro e w1 ⟨rfl, hb⟩
      replace H0 := H0.trans (hb.mono H0.size)
      clear hb c0 c1 c2 c3 c4 c5 c6 c7
      go_wp2_with fail
      go_ret
      exact ⟨rfl, H0⟩
set_option maxRecDepth 100000 in
set_option maxHeartbeats 4000000 in
theorem lcont_no {v : Value} {m : Nat} {s : Sp} (hS : SpS w L v l) (hB : BothS (l.take m)) (hmi : l[m]? = some s) (hno : bothB s = false) :
    Calls Tryz.prog 79 #[v, .func (.func 80) #[] #[]] w fun e w' => e = .returned (.bool true) ∧ Below w.heap.size w w' := by
  have hd : decide ((0 : Int) ≤ (m : Int)) = true := decide_eq_true (by omega)
  go_enter Tryz.func79, Tryz.ntmps79
  go_wp2_with fail
  refine (lindex_no hS hB hmi hno).mono ?_
  rintro e w0 ⟨rfl, hb⟩
  have H0 := hb
  clear hb
  go_wp2_with fail
  go_returns
  exact ⟨rfl, H0⟩
set_option maxRecDepth 100000 in
set_option maxHeartbeats 4000000 in
theorem length_no {v : Value} {m : Nat} {s : Sp} (hS : SpS w L v l) (hB : BothS (l.take m)) (hmi : l[m]? = some s) (hno : bothB s = false) (hok : OkS l) (hsep : SepS l) (hn : l.length ≤ 4096) (hL : L ≤ 100) {t : TypeId} {a : Addr} (hE : w.cell? ⟨1, 0, none⟩ = some (.iface t (.pointer (some a)))) :
    Calls Tryz.prog 38 #[v] w fun e w' => e = .returned (.tuple #[.agg #[.bool false, .slice none 0 0, .slice none 0 0], .iface t (.pointer (some a))]) ∧ Below w.heap.size w w' := by
  have HK := Lib.hid hok
  have HSE := Lib.hid hsep
  have HB1 := Lib.hid hB
  have HMI := Lib.hid hmi
  clear hok hsep hB hmi
  have HG := Lib.hid (fun (W : World) (h : Below w.heap.size w W) => (h.cell (World.block_lt_of_cell? w _ hE)).trans hE)
  clear hE
  go_enter Tryz.func38, Tryz.ntmps38
  go_upto_region 1 with fail
  obtain ⟨W0, hW, b2, hbW, hszW0⟩ := boxes1 w #[.bool false, .slice none 0 0, .slice none 0 0] 28
  rw [hW]
  clear hW
  replace hS := hS.below hbW
  have H0 := hbW
  clear hbW
  clear hszW0
  go_wp2_with fail
  refine (valid_v hS HK.out HSE.out hn (by omega)).mono ?_
  rintro e w1 ⟨rfl, hb⟩
  replace hS := hS.below hb
  replace b2 := b2.below hb
  replace H0 := H0.trans (hb.mono H0.size)
  clear hb
  go_wp2_with fail
  refine (lcont_no hS HB1.out HMI.out hno).mono ?_
  rintro e w2 ⟨rfl, hb⟩
  replace hS := hS.below hb
  replace b2 := b2.below hb
  replace H0 := H0.trans (hb.mono H0.size)
  clear hb
  go_wp2_with fail
  clear hS
  have hD := drawn_below w2
  replace b2 := b2.below hD
  replace H0 := H0.trans (hD.mono H0.size)
  clear hD
  refine wp_region_noPanic ?_
  refine wp_region_held_drew (S := (fun V => V.cell? ⟨1, 0, none⟩ = some (.iface t (.pointer (some a))))) (by kernel_rfl) (HG.out _ H0) (fun hHeld => ?_)
  generalize w2.drew = v3 at H0 hHeld b2 ⊢
  refine todo [0, 1] ?_
  iterate 2
    refine tkT ?_ rfl (by kernel_rfl) (fun _ _ _ h => h) (by rfl) (by assumption) ?_ ?_
    rotate_left
    · (intro w hSw; (try dsimp only at hSw); go_simp; (try with_reducible rfl))
    (try simp only [getElem_toArray, getElem_cons_succ, getElem_cons_zero, Act.put, setIfInBounds_toArray, set_cons_zero, set_cons_succ])
  refine tdone ?_
  obtain ⟨cb20, yb20, cb21, yb21, cb22, yb22⟩ := b2.cf3
  refine rd1 2 (by kernel_rfl) rfl (fun K hK => ?_)
  go_simp
  clear cb20 yb20 cb21 yb21 cb22 yb22
  have hg := only_store3 v3 (w.heap.size) (.bool false) (.slice none 0 0) (.slice none 0 0)
  have hB := b2.stored3 (.bool false) (.slice none 0 0) (.slice none 0 0)
  generalize hX : (((v3.setCell ⟨w.heap.size, 0, none⟩ (.bool false)).setCell ⟨w.heap.size, 1, none⟩ (.slice none 0 0)).setCell ⟨w.heap.size, 2, none⟩ (.slice none 0 0)) = X4 at hg hB ⊢
  clear hX
  replace b2 := hB
  replace H0 := below_only H0 hg (by omega) H0.size
  clear hg hB
  refine hK.out _ _ (HG.out _ H0) (fun hHeld => ?_)
  clear hK K
  (try simp only [getElem_toArray, getElem_cons_succ, getElem_cons_zero, Act.put, setIfInBounds_toArray, set_cons_zero, set_cons_succ])
  refine tk 3 ?_ rfl (by kernel_rfl) (fun _ _ _ h => h) (by rfl) (by assumption) ?_ ?_
  rotate_left
  · (intro w hSw; (try dsimp only at hSw); go_simp; (try with_reducible rfl))
  (try simp only [getElem_toArray, getElem_cons_succ, getElem_cons_zero, Act.put, setIfInBounds_toArray, set_cons_zero, set_cons_succ])
  refine wpAnyH_done (by kernel_rfl) ?_ _
  refine NoPanic.normal ?_
  go_wp2_with fail
  refine bodyPost_ret (ret_rat_b rfl rfl b2) rfl ?_
  exact ⟨rfl, H0⟩
end
end Go.Proofs.YtpgkkkodniiilaaGreatDoor
