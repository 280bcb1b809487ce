/-
  unit, known.
-/
import Derived.Test.YtpgkkkodniiilaaGreatDoorWRatO
import Derived.Test.YtpgkkkodniiilaaGreatDoorWSpK
namespace Go.Proofs.YtpgkkkodniiilaaGreatDoor
open Go.RowKit
section
variable {f0 h0 f1 h1 f2 h2 f3 h3 f4 h4 f5 h5 f6 h6 f7 h7 f8 h8 f9 h9 f10 h10 f11 h11 : Bool} {A0 A1 A2 A3 A4 D0 D1 D2 D3 : Option Addr} {n0 n1 n2 n3 c0 c1 c2 c3 c4 m0 m1 m2 m3 m4 m5 e0 e1 e2 e3 e4 : Nat} {s0 s1 s2 s3 : Bool} {q0 q1 q2 q3 q4 q5 q6 q7 : Rat} {z0 z1 z2 z3 z4 z5 z6 z7 z8 z9 z10 z11 : Int} {L L0 L1 x y : Nat} {k : Int} {b : Bool} {w : World}
variable {o0 o1 o2 o3 : Option Rat} {l l' : List Sp}
theorem SpS.lit {cs : List Value} {s : Sp} {e : TypeId} (h : SpE w L cs s) (h8 : cs.length = 8) : SpS (w.alloc (.cells cs.toArray e)) L (.slice (some ⟨w.heap.size, 0, none⟩) 1 1) [s] := by
  refine ⟨[cs], ⟨fun x hx => by have := List.mem_singleton.1 hx; subst this; exact h8, _, 1, rfl, Nat.le_refl _, by decide, fun _ => ⟨_, 0, rfl, fun i cs' hi j x hx => ?_⟩⟩, ?_, trivial⟩
  · cases i with
    | succ i => cases hi
    | zero =>
      injection hi with hi; subst hi
      have := lit_cells w cs e j x hx
      rw [Addr.add_lit] at this
      simpa using this
  · exact (firm_spe L cs s).below h ((Below.refl _ _).alloc (Nat.le_refl _) _)
/-- What two sets in memory are made to be one and the same. -/
theorem OpV.is {v : Value} {f : Bool → Bool → Bool} {b c : Bool} {ts us vs : List Rat} (h : OpV w L v f b ts c us) (hv : Asc vs) (g : Bool) (he : ∀ x, x ∉ ts → x ∉ us → x ∉ vs → f (evT b ts x) (evT c us x) = evT g vs x) : SetV w L v g vs := by
  obtain ⟨xs, h1, h2, h3, h4⟩ := h
  obtain ⟨e1, e2⟩ := uniq (ts ++ us) h1.2 hv fun x m1 _ m3 => by
    have m4 : x ∉ ts := fun hm => m1 (List.mem_append_left _ hm)
    have m5 : x ∉ us := fun hm => m1 (List.mem_append_right _ hm)
    rw [h4 x m4 m5]; exact he x m4 m5 m3
  rw [← e1, ← e2]; exact h1
set_option maxRecDepth 100000 in
set_option maxHeartbeats 4000000 in
theorem unit_v {a b : Int} (ha : -100 ≤ a) (hab : a < b) (hb : b ≤ 100) (w : World) :
    Calls Tryz.prog 44 #[.int .i64 a, .int .i64 b] w fun e w' => ∃ v, e = .returned v ∧ SetV w' 2 v false [(a : Rat), (b : Rat)] ∧ Below w.heap.size w w' := by
  go_enter Tryz.func44, Tryz.ntmps44
  go_wp2_with fail
  refine (nof_v a (by omega) (by omega) _).mono ?_
  rintro e w0 ⟨s0, A0, n0, c0, D0, m0, e0, rfl, g0, hb⟩
  have H0 := hb
  clear hb
  go_wp2_with fail
  refine (toq_v g0 (by decide)).mono ?_
  rintro e w1 ⟨s1, A1, n1, c1, D1, m1, e1, rfl, k0, hb⟩
  replace g0 := g0.below hb
  replace H0 := H0.trans (hb.mono H0.size)
  clear hb
  go_wp2_with fail
  clear g0
  refine (nof_v b (by omega) (by omega) _).mono ?_
  rintro e w2 ⟨s2, A2, n2, c2, D2, m2, e2, rfl, g0, hb⟩
  replace k0 := k0.below hb
  replace H0 := H0.trans (hb.mono H0.size)
  clear hb
  go_wp2_with fail
  refine (toq_v g0 (by decide)).mono ?_
  rintro e w3 ⟨s3, A3, n3, c3, D3, m3, e3, rfl, k1, hb⟩
  replace k0 := k0.below hb
  replace g0 := g0.below hb
  replace H0 := H0.trans (hb.mono H0.size)
  clear hb
  go_wp2_with fail
  clear g0
  have hS := SpS.lit (e := 32) (show SpE w3 2 [.bool s1, .slice A1 n1 c1, .slice D1 m1 e1, .bool s3, .slice A3 n3 c3, .slice D3 m3 e3, .bool false, .bool false] ⟨some (a : Rat), some (b : Rat)⟩ from ⟨_, _, _, _, _, _, _, _, _, _, _, _, _, _, _, _, rfl, .inl ⟨rfl, _, rfl, k0⟩, .inl ⟨rfl, _, rfl, k1⟩⟩) rfl
  have hbA := H0.trans (((Below.refl w3.heap.size w3).alloc (Nat.le_refl _) (.cells #[.bool s1, .slice A1 n1 c1, .slice D1 m1 e1, .bool s3, .slice A3 n3 c3, .slice D3 m3 e3, .bool false, .bool false] 32)).mono H0.size)
  go_returns
  exact ⟨_, rfl, ⟨hS, ⟨fun u hu => by have := List.mem_singleton.1 hu; subst this; exact Rat.intCast_lt_intCast.2 hab, fun u hu => (by cases hu), trivial⟩⟩, hbA⟩
theorem asc02 : Asc [((0 : Int) : Rat), ((2 : Int) : Rat)] := ⟨fun u hu => by have := List.mem_singleton.1 hu; subst this; decide, fun u hu => (by cases hu), trivial⟩
theorem cast0 : ((0 : Int) : Rat) = 0 := rfl
theorem cast1 : ((1 : Int) : Rat) = 1 := rfl
theorem cast2 : ((2 : Int) : Rat) = 2 := rfl
theorem un02 (x : Rat) (_ : x ∉ [((0 : Int) : Rat), ((1 : Int) : Rat)]) (_ : x ∉ [((1 : Int) : Rat), ((2 : Int) : Rat)]) (_ : x ∉ [((0 : Int) : Rat), ((2 : Int) : Rat)]) : (evT false [((0 : Int) : Rat), ((1 : Int) : Rat)] x || evT false [((1 : Int) : Rat), ((2 : Int) : Rat)] x) = evT false [((0 : Int) : Rat), ((2 : Int) : Rat)] x := by
  rw [cast0, cast1, cast2] at *
  by_cases h1 : 0 < x <;> by_cases h2 : 1 < x <;> by_cases h3 : 2 < x <;> simp [evT, h1, h2, h3] <;> grind
theorem in02 (x : Rat) (_ : x ∉ [((0 : Int) : Rat), ((1 : Int) : Rat)]) (_ : x ∉ [((1 : Int) : Rat), ((2 : Int) : Rat)]) (_ : x ∉ ([] : List Rat)) : (evT false [((0 : Int) : Rat), ((1 : Int) : Rat)] x && evT false [((1 : Int) : Rat), ((2 : Int) : Rat)] x) = evT false [] x := by
  rw [cast0, cast1, cast2] at *
  by_cases h1 : 0 < x <;> by_cases h2 : 1 < x <;> by_cases h3 : 2 < x <;> simp [evT, h1, h2, h3] <;> grind
set_option maxRecDepth 100000 in
set_option maxHeartbeats 4000000 in
theorem known6_any (w : World) :
    Calls Tryz.prog 10 #[] w fun e w' => e = .returned (.bool true) ∧ Below w.heap.size w w' := by
  go_enter Tryz.func10, Tryz.ntmps10
  go_wp2_with fail
  refine (unit_v (a := 0) (b := 1) (by decide) (by decide) (by decide) _).mono ?_
  rintro e w0 ⟨v1, rfl, h1, hb⟩
  have H0 := hb
  clear hb
  go_wp2_with fail
  refine (unit_v (a := 1) (b := 2) (by decide) (by decide) (by decide) _).mono ?_
  rintro e w1 ⟨v2, rfl, h2, hb⟩
  replace h1 := h1.below hb
  replace H0 := H0.trans (hb.mono H0.size)
  clear hb
  go_wp2_with fail
  refine (sunion_v h1 (by decide) h2 (by decide) (by decide) (by decide)).mono ?_
  rintro e w2 ⟨v3, rfl, h3, hb⟩
  replace h1 := h1.below hb
  replace h2 := h2.below hb
  replace H0 := H0.trans (hb.mono H0.size)
  clear hb
  have h3 := h3.is (vs := [((0 : Int) : Rat), ((2 : Int) : Rat)]) asc02 false un02
  clear h1
  clear h2
  go_wp2_with fail
  refine (unit_v (a := 0) (b := 1) (by decide) (by decide) (by decide) _).mono ?_
  rintro e w3 ⟨v1, rfl, h1, hb⟩
  replace h3 := h3.below hb
  replace H0 := H0.trans (hb.mono H0.size)
  clear hb
  go_wp2_with fail
  refine (unit_v (a := 1) (b := 2) (by decide) (by decide) (by decide) _).mono ?_
  rintro e w4 ⟨v2, rfl, h2, hb⟩
  replace h3 := h3.below hb
  replace h1 := h1.below hb
  replace H0 := H0.trans (hb.mono H0.size)
  clear hb
  go_wp2_with fail
  refine (sinter_v h1 (by decide) h2 (by decide) (by decide) (by decide)).mono ?_
  rintro e w5 ⟨v4, rfl, h4, hb⟩
  replace h3 := h3.below hb
  replace h1 := h1.below hb
  replace h2 := h2.below hb
  replace H0 := H0.trans (hb.mono H0.size)
  clear hb
  have h4 := h4.is (vs := []) trivial false in02
  clear h1
  clear h2
  obtain ⟨A4, c4, e4, _, _⟩ := h4.1.form
  subst e4
  clear h4
  go_wp2_with fail
  refine (unit_v (a := 0) (b := 2) (by decide) (by decide) (by decide) _).mono ?_
  rintro e w6 ⟨v5, rfl, h5, hb⟩
  replace h3 := h3.below hb
  replace H0 := H0.trans (hb.mono H0.size)
  clear hb
  go_wp2_with fail
  refine (sameall_v h3.1 h5.1).mono ?_
  rintro e w7 ⟨rfl, hb⟩
  replace h3 := h3.below hb
  replace h5 := h5.below hb
  replace H0 := H0.trans (hb.mono H0.size)
  clear hb
  go_wp2_with fail
  go_returns
  exact ⟨rfl, H0⟩
end
end Go.Proofs.YtpgkkkodniiilaaGreatDoor
