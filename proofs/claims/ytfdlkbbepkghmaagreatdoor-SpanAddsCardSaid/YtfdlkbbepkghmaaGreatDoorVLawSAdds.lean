/-
  The walk of the law SpanAdds.
-/
import Derived.Test.YtfdlkbbepkghmaaGreatDoorVSq
import Derived.Test.YtfdlkbbepkghmaaGreatDoorVEM
import Derived.Test.YtfdlkbbepkghmaaGreatDoorVSpLn
import Derived.IntWalk
import Derived.Deep.Cut
namespace Go.Proofs.YtfdlkbbepkghmaaGreatDoor
open List (getElem_toArray getElem_cons_succ getElem_cons_zero setIfInBounds_toArray set_cons_zero set_cons_succ)
open Go.RowKit
section
variable {f0 h0 f1 h1 f2 h2 f3 h3 f4 h4 f5 h5 f6 h6 f7 h7 f8 h8 f9 h9 f10 h10 f11 h11 : Bool} {A0 A1 A2 A3 A4 A5 A6 A7 A8 A9 D0 D1 D2 D3 D4 D5 D6 D7 D8 D9 : Option Addr} {n0 n1 n2 n3 n4 n5 n6 n7 n8 n9 c0 c1 c2 c3 c4 c5 c6 c7 c8 c9 m0 m1 m2 m3 m4 m5 m6 m7 m8 m9 e0 e1 e2 e3 e4 e5 e6 e7 e8 e9 : Nat} {s0 s1 s2 s3 s4 s5 s6 s7 s8 s9 : Bool} {q0 q1 q2 q3 q4 q5 q6 q7 : Rat} {z0 z1 z2 z3 z4 z5 z6 z7 z8 z9 z10 z11 : Int} {L L0 L1 x y : Nat} {k : Int} {w : World}
variable {o0 o1 o2 o3 : Option Rat} {l l' : List Sp}
/-- The span that bounds. -/
def bdS : Sp := ⟨some ((-50 : Int) : Rat), some ((50 : Int) : Rat)⟩
def BdV (w : World) (v : Value) : Prop := SrS w 5 v [bdS]
theorem BdV.below {w' : World} {v : Value} (h : BdV w v) (hb : Below w.heap.size w w') : BdV w' v := SrS.below h hb
theorem BdV.tape {w' : World} {b : Nat} {v : Value} (h : BdV w v) (ht : Tape w b) (hg : w.grownBy w' (some b)) : BdV w' v := by
  obtain ⟨css, h1, h2⟩ := h
  refine ⟨css, h1.tape ht hg fun cs hcs => ?_, h2.mono fun _ _ r => r.tape ht hg⟩
  obtain ⟨q, _, _, _, _, _, _, _, _, _, _, _, _, _, _, _, _, rfl, _⟩ := All2.mem h2 cs hcs
  exact ⟨_, rfl⟩
theorem asc_len {ts : List Rat} : ∀ {m : List Rat}, Asc ts → (∀ t ∈ ts, t ∈ m) → ts.length ≤ m.length := by
  induction ts with
  | nil => intros; exact Nat.zero_le _
  | cons t ts ih =>
    intro m ha hs
    have h1 := hs t (List.mem_cons_self ..)
    have h2 := ih (m := m.erase t) ha.2 fun u hu => (List.mem_erase_of_ne (by have := ha.1 u hu; grind)).2 (hs u (List.mem_cons_of_mem _ hu))
    rw [List.length_erase_of_mem h1] at h2
    have := List.length_pos_of_mem h1
    simp only [List.length_cons]; omega
/-- What is cut with the bounds: bounded, and of few numbers. -/
theorem bound_is {b : Bool} {us ts : List Rat} {g : Bool} (hu : us.length ≤ 8) (ha : Asc ts) (hm : ∀ t ∈ ts, ∃ s, (s ∈ spansOf b us ∨ s ∈ [bdS]) ∧ (s.lo = some t ∨ s.hi = some t))
    (hev : ∀ x, (∀ s, s ∈ spansOf b us ∨ s ∈ [bdS] → offS s x) → evT g ts x = (memL (spansOf b us) x && memL [bdS] x)) : Bnd g ts ∧ ts.length ≤ 10 := by
  obtain ⟨_, _, h3, _, _⟩ := endsT_spec (spansOf b us ++ [bdS]) [] trivial
  have off : ∀ x, x ∉ endsT [] (spansOf b us ++ [bdS]) → ∀ s, s ∈ spansOf b us ∨ s ∈ [bdS] → offS s x := fun x hx s hs =>
    ⟨fun e => hx ((h3 s (List.mem_append.2 hs)).1 x e), fun e => hx ((h3 s (List.mem_append.2 hs)).2 x e)⟩
  refine ⟨Bnd.of ⟨endsT [] (spansOf b us ++ [bdS]), ((-50 : Int) : Rat), ((50 : Int) : Rat), fun x hx hn _ => ?_, fun x hx hn _ => ?_⟩, ?_⟩
  · have h1 : decide (((-50 : Int) : Rat) < x) = false := decide_eq_false (by grind)
    have hb : memL [bdS] x = false := by
      show ((decide (((-50 : Int) : Rat) < x) && decide (x < ((50 : Int) : Rat))) || false) = false
      rw [h1]; rfl
    rw [hev x (off x hn), hb, Bool.and_false]
  · have h1 : decide (x < ((50 : Int) : Rat)) = false := decide_eq_false (by grind)
    have hb : memL [bdS] x = false := by
      show ((decide (((-50 : Int) : Rat) < x) && decide (x < ((50 : Int) : Rat))) || false) = false
      rw [h1, Bool.and_false]; rfl
    rw [hev x (off x hn), hb, Bool.and_false]
  · have h := asc_len (m := us ++ [((-50 : Int) : Rat), ((50 : Int) : Rat)]) ha fun t ht => by
      obtain ⟨s, hs, hh⟩ := hm t ht
      rcases hs with hs | hs
      · rcases hh with hh | hh
        · exact List.mem_append_left _ ((ends_set s hs).1 t hh)
        · exact List.mem_append_left _ ((ends_set s hs).2 t hh)
      · have := List.mem_singleton.1 hs; subst this
        rcases hh with hh | hh
        · injection hh with hh; subst hh; simp
        · injection hh with hh; subst hh; simp
    simp at h; omega
set_option maxRecDepth 100000 in
set_option maxHeartbeats 16000000 in
theorem spanadds_any {v : Value} (HI : Ints w v) :
    Calls Tryz.prog 8 #[v] w fun e w' => e = .returned (.bool true) ∧ Below w.heap.size w w' := by
  go_enter Tryz.func8, Tryz.ntmps8
  go_wp2_with fail
  refine (new_any HI).mono ?_
  rintro e w1 ⟨rfl, hT, H0, hsz⟩
  have hlt : w.heap.size < w1.heap.size := by omega
  clear hsz HI
  go_wp2_with fail
  refine (nof_v (-50) (by decide) (by decide) _).mono ?_
  rintro e w2 ⟨s0, A0, n0, c0, D0, m0, e0, rfl, p0, hb⟩
  replace hT := hT.keep hb hlt
  replace hlt := Nat.lt_of_lt_of_le hlt hb.size
  replace H0 := H0.trans (hb.mono H0.size)
  clear hb
  go_wp2_with fail
  refine (nof_v 50 (by decide) (by decide) _).mono ?_
  rintro e w3 ⟨s1, A1, n1, c1, D1, m1, e1, rfl, p1, hb⟩
  replace p0 := p0.below hb
  replace hT := hT.keep hb hlt
  replace hlt := Nat.lt_of_lt_of_le hlt hb.size
  replace H0 := H0.trans (hb.mono H0.size)
  clear hb
  have hl_4 := hlt
  obtain ⟨W4, hW, bL, hbW, hszW4⟩ := boxes1 w3 #[.bool s0, .slice A0 n0 c0, .slice D0 m0 e0, .bool s1, .slice A1 n1 c1, .slice D1 m1 e1, .bool false, .bool false] 39
  skip
  skip
  replace p0 := p0.below hbW
  replace p1 := p1.below hbW
  replace hT := hT.keep hbW hlt
  replace hlt := Nat.lt_of_lt_of_le hlt hbW.size
  replace H0 := H0.trans (hbW.mono H0.size)
  clear hbW
  go_wp2_with fail
  clear hW
  clear hszW4
  have hbd : BdV W4 (.slice (some ⟨w3.heap.size, 0, none⟩) 1 1) := ⟨_, Box.readl (cs := [.bool s0, .slice A0 n0 c0, .slice D0 m0 e0, .bool s1, .slice A1 n1 c1, .slice D1 m1 e1, .bool false, .bool false]) bL rfl, ⟨_, _, _, _, _, _, _, _, _, _, _, _, _, _, _, _, rfl, .inl ⟨rfl, _, rfl, p0.more (by decide)⟩, .inl ⟨rfl, _, rfl, p1.more (by decide)⟩⟩, trivial⟩
  clear p0
  clear p1
  clear bL
  refine (smade_v hT hlt).mono ?_
  rintro e w5 ⟨v0_, g0_, t0_, rfl, h0_, ha0_, hl0_, hT', hg⟩
  replace hbd := hbd.tape hT hg
  replace hlt := Nat.lt_of_lt_of_le hlt hg.size
  replace H0 := H0.grown hg H0.size (by rintro k hk; injection hk with hk; omega)
  clear hT
  have hT := hT'
  clear hT' hg
  go_wp2_with fail
  refine (combine_and h0_ hbd (by have := set_len g0_ t0_; simp; omega) (by decide)).mono ?_
  rintro e w6 ⟨z0_, rfl, f0_, hb⟩
  replace hbd := hbd.below hb
  replace h0_ := h0_.below hb
  replace hT := hT.keep hb hlt
  replace hlt := Nat.lt_of_lt_of_le hlt hb.size
  replace H0 := H0.trans (hb.mono H0.size)
  clear hb
  clear h0_
  obtain ⟨_, _, hp_, -⟩ := probes_cons (endsT [] (spansOf g0_ t0_ ++ [bdS]))
  obtain ⟨g0, t0, e1_, a0_, m0_, -, ev0_⟩ := combine_sem (a := spansOf g0_ t0_) (b := [bdS]) (fun x y => x && y) hp_
  rw [e1_] at f0_
  obtain ⟨hB0, hl0⟩ := bound_is hl0_ a0_ m0_ ev0_
  clear e1_ hp_ m0_ ev0_ ha0_ hl0_
  go_wp2_with fail
  refine (writeall_v f0_ (by have := set_len g0 t0; omega) (by decide)).mono ?_
  rintro e w7 ⟨y0_, rfl, s0_, hb⟩
  replace hbd := hbd.below hb
  replace f0_ := f0_.below hb
  replace hT := hT.keep hb hlt
  replace hlt := Nat.lt_of_lt_of_le hlt hb.size
  replace H0 := H0.trans (hb.mono H0.size)
  clear hb
  clear f0_
  have k0 : SetV w7 5 y0_ g0 t0 := ⟨s0_, a0_⟩
  clear s0_ a0_
  have HB0 := Lib.hid hB0
  clear hB0
  go_wp2_with fail
  refine (smade_v hT hlt).mono ?_
  rintro e w8 ⟨v1_, g1_, t1_, rfl, h1_, ha1_, hl1_, hT', hg⟩
  replace hbd := hbd.tape hT hg
  replace k0 := k0.tape hT hg
  replace hlt := Nat.lt_of_lt_of_le hlt hg.size
  replace H0 := H0.grown hg H0.size (by rintro k hk; injection hk with hk; omega)
  clear hT
  have hT := hT'
  clear hT' hg
  go_wp2_with fail
  refine (combine_and h1_ hbd (by have := set_len g1_ t1_; simp; omega) (by decide)).mono ?_
  rintro e w9 ⟨z1_, rfl, f1_, hb⟩
  replace hbd := hbd.below hb
  replace k0 := k0.below hb
  replace h1_ := h1_.below hb
  replace hT := hT.keep hb hlt
  replace hlt := Nat.lt_of_lt_of_le hlt hb.size
  replace H0 := H0.trans (hb.mono H0.size)
  clear hb
  clear h1_
  obtain ⟨_, _, hp_, -⟩ := probes_cons (endsT [] (spansOf g1_ t1_ ++ [bdS]))
  obtain ⟨g1, t1, e1_, a1_, m1_, -, ev1_⟩ := combine_sem (a := spansOf g1_ t1_) (b := [bdS]) (fun x y => x && y) hp_
  rw [e1_] at f1_
  obtain ⟨hB1, hl1⟩ := bound_is hl1_ a1_ m1_ ev1_
  clear e1_ hp_ m1_ ev1_ ha1_ hl1_
  go_wp2_with fail
  refine (writeall_v f1_ (by have := set_len g1 t1; omega) (by decide)).mono ?_
  rintro e w10 ⟨y1_, rfl, s1_, hb⟩
  replace hbd := hbd.below hb
  replace k0 := k0.below hb
  replace f1_ := f1_.below hb
  replace hT := hT.keep hb hlt
  replace hlt := Nat.lt_of_lt_of_le hlt hb.size
  replace H0 := H0.trans (hb.mono H0.size)
  clear hb
  clear f1_
  have k1 : SetV w10 5 y1_ g1 t1 := ⟨s1_, a1_⟩
  clear s1_ a1_
  have HB1 := Lib.hid hB1
  clear hB1
  clear hT hlt
  clear hbd
  go_wp2_with fail
  refine (sunion_v k0 (by omega) k1 (by omega) (by decide) (by decide)).mono ?_
  rintro e w11 ⟨v_u, rfl, ⟨t_u, k_u, -, l_u, e_u⟩, hb⟩
  replace k0 := k0.below hb
  replace k1 := k1.below hb
  replace H0 := H0.trans (hb.mono H0.size)
  clear hb
  have E_u := Lib.hid e_u
  clear e_u
  try simp only [List.length_nil, Nat.add_zero] at l_u
  go_wp2_with fail
  refine (sinter_v k0 (by omega) k1 (by omega) (by decide) (by decide)).mono ?_
  rintro e w12 ⟨v_i, rfl, ⟨t_i, k_i, -, l_i, e_i⟩, hb⟩
  replace k0 := k0.below hb
  replace k1 := k1.below hb
  replace k_u := k_u.below hb
  replace H0 := H0.trans (hb.mono H0.size)
  clear hb
  have E_i := Lib.hid e_i
  clear e_i
  try simp only [List.length_nil, Nat.add_zero] at l_i
  obtain ⟨hBu, hBi, hsum⟩ := sum_adds k0.2 k1.2 k_u.2 k_i.2 HB0.out HB1.out E_u.out E_i.out
  have HBu := Lib.hid hBu
  have HBi := Lib.hid hBi
  have HS := Lib.hid (rsg_eq hsum)
  clear hBu hBi hsum E_u E_i
  go_wp2_with fail
  refine (length_v k0 HB0.out 5 (by omega) (by decide) (by decide)).mono ?_
  rintro e w13 ⟨s0, A0, n0, c0, D0, m0, e0, rfl, q0_, hb⟩
  replace k0 := k0.below hb
  replace k1 := k1.below hb
  replace k_u := k_u.below hb
  replace k_i := k_i.below hb
  replace H0 := H0.trans (hb.mono H0.size)
  clear hb
  clear k0
  obtain ⟨W14, hW, b11, hbW, hszW14⟩ := boxes1 w13 #[.bool s0, .slice A0 n0 c0, .slice D0 m0 e0] 28
  skip
  skip
  replace k1 := k1.below hbW
  replace k_u := k_u.below hbW
  replace k_i := k_i.below hbW
  replace q0_ := q0_.below hbW
  replace H0 := H0.trans (hbW.mono H0.size)
  clear hbW
  go_wp2_with fail
  clear hW
  clear hszW14
  refine (length_v k1 HB1.out 5 (by omega) (by decide) (by decide)).mono ?_
  rintro e w15 ⟨s1, A1, n1, c1, D1, m1, e1, rfl, q1_, hb⟩
  replace k1 := k1.below hb
  replace k_u := k_u.below hb
  replace k_i := k_i.below hb
  replace q0_ := q0_.below hb
  replace b11 := b11.below hb
  replace H0 := H0.trans (hb.mono H0.size)
  clear hb
  clear k1
  have lb11_16 := b11.lt
  obtain ⟨W16, hW, b13, hbW, hszW16⟩ := boxes1 w15 #[.bool s1, .slice A1 n1 c1, .slice D1 m1 e1] 28
  skip
  skip
  replace k_u := k_u.below hbW
  replace k_i := k_i.below hbW
  replace q0_ := q0_.below hbW
  replace q1_ := q1_.below hbW
  replace b11 := b11.below hbW
  replace H0 := H0.trans (hbW.mono H0.size)
  clear hbW
  go_wp2_with fail
  clear hW
  clear hszW16
  refine (length_v k_u HBu.out 10 (by omega) (by decide) (by decide)).mono ?_
  rintro e w17 ⟨s2, A2, n2, c2, D2, m2, e2, rfl, q2_, hb⟩
  replace k_u := k_u.below hb
  replace k_i := k_i.below hb
  replace q0_ := q0_.below hb
  replace q1_ := q1_.below hb
  replace b11 := b11.below hb
  replace b13 := b13.below hb
  replace H0 := H0.trans (hb.mono H0.size)
  clear hb
  clear k_u
  have lb11_18 := b11.lt
  have lb13_18 := b13.lt
  obtain ⟨W18, hW, b15, hbW, hszW18⟩ := boxes1 w17 #[.bool s2, .slice A2 n2 c2, .slice D2 m2 e2] 28
  skip
  skip
  replace k_i := k_i.below hbW
  replace q0_ := q0_.below hbW
  replace q1_ := q1_.below hbW
  replace q2_ := q2_.below hbW
  replace b11 := b11.below hbW
  replace b13 := b13.below hbW
  replace H0 := H0.trans (hbW.mono H0.size)
  clear hbW
  go_wp2_with fail
  clear hW
  clear hszW18
  refine (length_v k_i HBi.out 10 (by omega) (by decide) (by decide)).mono ?_
  rintro e w19 ⟨s3, A3, n3, c3, D3, m3, e3, rfl, q3_, hb⟩
  replace k_i := k_i.below hb
  replace q0_ := q0_.below hb
  replace q1_ := q1_.below hb
  replace q2_ := q2_.below hb
  replace b11 := b11.below hb
  replace b13 := b13.below hb
  replace b15 := b15.below hb
  replace H0 := H0.trans (hb.mono H0.size)
  clear hb
  clear k_i
  have lb11_20 := b11.lt
  have lb13_20 := b13.lt
  have lb15_20 := b15.lt
  obtain ⟨W20, hW, b17, hbW, hszW20⟩ := boxes1 w19 #[.bool s3, .slice A3 n3 c3, .slice D3 m3 e3] 28
  skip
  skip
  replace q0_ := q0_.below hbW
  replace q1_ := q1_.below hbW
  replace q2_ := q2_.below hbW
  replace q3_ := q3_.below hbW
  replace b11 := b11.below hbW
  replace b13 := b13.below hbW
  replace b15 := b15.below hbW
  replace H0 := H0.trans (hbW.mono H0.size)
  clear hbW
  go_wp2_with fail
  clear hW
  clear hszW20
  clear hl0 hl1 l_u l_i
  replace q0_ : NQ W20 s0 (.slice A0 n0 c0) (.slice D0 m0 e0) _ 64 := q0_
  replace q1_ : NQ W20 s1 (.slice A1 n1 c1) (.slice D1 m1 e1) _ 64 := q1_
  replace q2_ : NQ W20 s2 (.slice A2 n2 c2) (.slice D2 m2 e2) _ 129 := q2_
  replace q3_ : NQ W20 s3 (.slice A3 n3 c3) (.slice D3 m3 e3) _ 129 := q3_
  have hD := drawn_below W20
  replace q0_ := q0_.below hD
  replace q1_ := q1_.below hD
  replace q2_ := q2_.below hD
  replace q3_ := q3_.below hD
  replace b11 := b11.below hD
  replace b13 := b13.below hD
  replace b15 := b15.below hD
  replace b17 := b17.below hD
  replace H0 := H0.trans (hD.mono H0.size)
  clear hD
  refine wp_region_noPanic ?_
  refine wp_region_held_drew (S := (fun V => V.cell? ⟨w13.heap.size, 0, none⟩ = some (.bool s0) ∧ V.cell? ⟨w13.heap.size, 1, none⟩ = some (.slice A0 n0 c0) ∧ V.cell? ⟨w13.heap.size, 2, none⟩ = some (.slice D0 m0 e0) ∧ V.cell? ⟨w15.heap.size, 0, none⟩ = some (.bool s1) ∧ V.cell? ⟨w15.heap.size, 1, none⟩ = some (.slice A1 n1 c1) ∧ V.cell? ⟨w15.heap.size, 2, none⟩ = some (.slice D1 m1 e1) ∧ V.cell? ⟨w17.heap.size, 0, none⟩ = some (.bool s2) ∧ V.cell? ⟨w17.heap.size, 1, none⟩ = some (.slice A2 n2 c2) ∧ V.cell? ⟨w17.heap.size, 2, none⟩ = some (.slice D2 m2 e2) ∧ V.cell? ⟨w19.heap.size, 0, none⟩ = some (.bool s3) ∧ V.cell? ⟨w19.heap.size, 1, none⟩ = some (.slice A3 n3 c3) ∧ V.cell? ⟨w19.heap.size, 2, none⟩ = some (.slice D3 m3 e3))) (by kernel_rfl) (b11.and3 (b13.and3 (b15.and3 (b17.all3)))) (fun hHeld => ?_)
  generalize W20.drew = v21 at H0 hHeld q0_ q1_ q2_ q3_ b11 b13 b15 b17 ⊢
  refine rd1 0 (by kernel_rfl) rfl (fun K hK => ?_)
  go_simp
  go_at_call 10
  refine (known6_any _).mono ?_
  rintro e w22 ⟨rfl, hb⟩
  replace q0_ := q0_.below hb
  replace q1_ := q1_.below hb
  replace q2_ := q2_.below hb
  replace q3_ := q3_.below hb
  replace b11 := b11.below hb
  replace b13 := b13.below hb
  replace b15 := b15.below hb
  replace b17 := b17.below hb
  replace H0 := H0.trans (hb.mono H0.size)
  clear hb
  go_wp2_with fail
  refine hK.out _ _ (b11.and3 (b13.and3 (b15.and3 (b17.all3)))) (fun hHeld => ?_)
  clear hK K
  (try simp only [getElem_toArray, getElem_cons_succ, getElem_cons_zero, Act.put, setIfInBounds_toArray, set_cons_zero, set_cons_succ])
  refine todo [1, 2, 3, 4, 5, 6, 7, 8, 9, 10, 11, 12, 13, 14, 15, 16, 17, 18, 19, 20, 21, 22, 23, 24, 25, 26, 28, 31, 33] ?_
  iterate 29
    refine tkT ?_ rfl (by kernel_rfl) (fun _ _ _ h => h) (by rfl) (by assumption) ?_ ?_
    rotate_left
    · (intro w hSw; (try dsimp only at hSw); go_simp; (try with_reducible rfl))
    (try simp only [getElem_toArray, getElem_cons_succ, getElem_cons_zero, Act.put, setIfInBounds_toArray, set_cons_zero, set_cons_succ])
  refine tdone ?_
  refine rd1 27 (by kernel_rfl) rfl (fun K hK => ?_)
  go_simp
  go_at_call 20
  refine (refq_v q0_.rq (by decide)).mono ?_
  rintro e w23 ⟨s4, A4, n4, c4, D4, m4, e4, rfl, r0_, hb⟩
  replace q0_ := q0_.below hb
  replace q1_ := q1_.below hb
  replace q2_ := q2_.below hb
  replace q3_ := q3_.below hb
  replace b11 := b11.below hb
  replace b13 := b13.below hb
  replace b15 := b15.below hb
  replace b17 := b17.below hb
  replace H0 := H0.trans (hb.mono H0.size)
  clear hb
  clear q0_
  go_wp2_with fail
  refine hK.out _ _ (b11.and3 (b13.and3 (b15.and3 (b17.all3)))) (fun hHeld => ?_)
  clear hK K
  (try simp only [getElem_toArray, getElem_cons_succ, getElem_cons_zero, Act.put, setIfInBounds_toArray, set_cons_zero, set_cons_succ])
  refine rd1 29 (by kernel_rfl) rfl (fun K hK => ?_)
  go_simp
  go_at_call 20
  refine (refq_v q1_.rq (by decide)).mono ?_
  rintro e w24 ⟨s5, A5, n5, c5, D5, m5, e5, rfl, r1_, hb⟩
  replace q1_ := q1_.below hb
  replace q2_ := q2_.below hb
  replace q3_ := q3_.below hb
  replace r0_ := r0_.below hb
  replace b11 := b11.below hb
  replace b13 := b13.below hb
  replace b15 := b15.below hb
  replace b17 := b17.below hb
  replace H0 := H0.trans (hb.mono H0.size)
  clear hb
  clear q1_
  go_wp2_with fail
  refine hK.out _ _ (b11.and3 (b13.and3 (b15.and3 (b17.all3)))) (fun hHeld => ?_)
  clear hK K
  (try simp only [getElem_toArray, getElem_cons_succ, getElem_cons_zero, Act.put, setIfInBounds_toArray, set_cons_zero, set_cons_succ])
  refine rd1 30 (by kernel_rfl) rfl (fun K hK => ?_)
  go_simp
  go_at_call 32
  refine (nplusw_v r0_ r1_ (by decide) (by decide)).mono ?_
  rintro e w25 ⟨s6, A6, n6, c6, D6, m6, e6, rfl, r2_, hb⟩
  replace q2_ := q2_.below hb
  replace q3_ := q3_.below hb
  replace r0_ := r0_.below hb
  replace r1_ := r1_.below hb
  replace b11 := b11.below hb
  replace b13 := b13.below hb
  replace b15 := b15.below hb
  replace b17 := b17.below hb
  replace H0 := H0.trans (hb.mono H0.size)
  clear hb
  clear r0_
  clear r1_
  go_wp2_with fail
  refine hK.out _ _ (b11.and3 (b13.and3 (b15.and3 (b17.all3)))) (fun hHeld => ?_)
  clear hK K
  (try simp only [getElem_toArray, getElem_cons_succ, getElem_cons_zero, Act.put, setIfInBounds_toArray, set_cons_zero, set_cons_succ])
  refine rd1 32 (by kernel_rfl) rfl (fun K hK => ?_)
  go_simp
  go_at_call 20
  refine (refq_v q2_.rq (by decide)).mono ?_
  rintro e w26 ⟨s7, A7, n7, c7, D7, m7, e7, rfl, r3_, hb⟩
  replace q2_ := q2_.below hb
  replace q3_ := q3_.below hb
  replace r2_ := r2_.below hb
  replace b11 := b11.below hb
  replace b13 := b13.below hb
  replace b15 := b15.below hb
  replace b17 := b17.below hb
  replace H0 := H0.trans (hb.mono H0.size)
  clear hb
  clear q2_
  go_wp2_with fail
  refine hK.out _ _ (b11.and3 (b13.and3 (b15.and3 (b17.all3)))) (fun hHeld => ?_)
  clear hK K
  (try simp only [getElem_toArray, getElem_cons_succ, getElem_cons_zero, Act.put, setIfInBounds_toArray, set_cons_zero, set_cons_succ])
  refine rd1 34 (by kernel_rfl) rfl (fun K hK => ?_)
  go_simp
  go_at_call 20
  refine (refq_v q3_.rq (by decide)).mono ?_
  rintro e w27 ⟨s8, A8, n8, c8, D8, m8, e8, rfl, r4_, hb⟩
  replace q3_ := q3_.below hb
  replace r2_ := r2_.below hb
  replace r3_ := r3_.below hb
  replace b11 := b11.below hb
  replace b13 := b13.below hb
  replace b15 := b15.below hb
  replace b17 := b17.below hb
  replace H0 := H0.trans (hb.mono H0.size)
  clear hb
  clear q3_
  go_wp2_with fail
  refine hK.out _ _ (b11.and3 (b13.and3 (b15.and3 (b17.all3)))) (fun hHeld => ?_)
  clear hK K
  (try simp only [getElem_toArray, getElem_cons_succ, getElem_cons_zero, Act.put, setIfInBounds_toArray, set_cons_zero, set_cons_succ])
  refine rd1 35 (by kernel_rfl) rfl (fun K hK => ?_)
  go_simp
  go_at_call 32
  refine (nplusw_v r3_ r4_ (by decide) (by decide)).mono ?_
  rintro e w28 ⟨s9, A9, n9, c9, D9, m9, e9, rfl, r5_, hb⟩
  replace r2_ := r2_.below hb
  replace r3_ := r3_.below hb
  replace r4_ := r4_.below hb
  replace b11 := b11.below hb
  replace b13 := b13.below hb
  replace b15 := b15.below hb
  replace b17 := b17.below hb
  replace H0 := H0.trans (hb.mono H0.size)
  clear hb
  clear r3_
  clear r4_
  go_wp2_with fail
  refine hK.out _ _ (b11.and3 (b13.and3 (b15.and3 (b17.all3)))) (fun hHeld => ?_)
  clear hK K
  (try simp only [getElem_toArray, getElem_cons_succ, getElem_cons_zero, Act.put, setIfInBounds_toArray, set_cons_zero, set_cons_succ])
  refine rd1 36 (by kernel_rfl) rfl (fun K hK => ?_)
  go_simp
  go_at_call 43
  refine (nqcw_v r2_ r5_ (by decide) (by decide) HS.out).mono ?_
  rintro e w29 ⟨rfl, hb⟩
  replace r2_ := r2_.below hb
  replace r5_ := r5_.below hb
  replace b11 := b11.below hb
  replace b13 := b13.below hb
  replace b15 := b15.below hb
  replace b17 := b17.below hb
  replace H0 := H0.trans (hb.mono H0.size)
  clear hb
  clear r2_
  clear r5_
  go_wp2_with fail
  refine hK.out _ _ (b11.and3 (b13.and3 (b15.and3 (b17.all3)))) (fun hHeld => ?_)
  clear hK K
  (try simp only [getElem_toArray, getElem_cons_succ, getElem_cons_zero, Act.put, setIfInBounds_toArray, set_cons_zero, set_cons_succ])
  refine todo [37, 38, 39] ?_
  iterate 3
    refine tkT ?_ rfl (by kernel_rfl) (fun _ _ _ h => h) (by rfl) (by assumption) ?_ ?_
    rotate_left
    · (intro w hSw; (try dsimp only at hSw); go_simp; (try with_reducible rfl))
    (try simp only [getElem_toArray, getElem_cons_succ, getElem_cons_zero, Act.put, setIfInBounds_toArray, set_cons_zero, set_cons_succ])
  refine tdone ?_
  refine wpAnyH_done (by kernel_rfl) ?_ _
  refine NoPanic.normal ?_
  go_wp2_with fail
  go_returns
  exact ⟨rfl, H0⟩
end
end Go.Proofs.YtfdlkbbepkghmaaGreatDoor
