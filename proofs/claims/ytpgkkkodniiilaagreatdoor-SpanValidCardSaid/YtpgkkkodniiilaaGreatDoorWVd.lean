/-
  Valid, Class, Union and Complement at lists that are no sets.
-/
import Derived.Test.YtpgkkkodniiilaaGreatDoorWVc
import Derived.IntWalk
import Derived.Deep.Cut
namespace Go.Proofs.YtpgkkkodniiilaaGreatDoor
open Go.RowKit

section
variable {f0 h0 f1 h1 f2 h2 f3 h3 f4 h4 f5 h5 f6 h6 f7 h7 f8 h8 f9 h9 f10 h10 f11 h11 : Bool} {A0 A1 A2 A3 A4 A5 A6 A7 A8 A9 A10 A11 A12 A13 A14 A15 A16 A17 A18 A19 A20 A21 A22 A23 D0 D1 D2 D3 D4 D5 D6 D7 D8 D9 D10 D11 D12 D13 D14 D15 D16 D17 D18 D19 D20 D21 D22 D23 : Option Addr} {n0 n1 n2 n3 n4 n5 n6 n7 n8 n9 n10 n11 n12 n13 n14 n15 n16 n17 n18 n19 n20 n21 n22 n23 c0 c1 c2 c3 c4 c5 c6 c7 c8 c9 c10 c11 c12 c13 c14 c15 c16 c17 c18 c19 c20 c21 c22 c23 m0 m1 m2 m3 m4 m5 m6 m7 m8 m9 m10 m11 m12 m13 m14 m15 m16 m17 m18 m19 m20 m21 m22 m23 e0 e1 e2 e3 e4 e5 e6 e7 e8 e9 e10 e11 e12 e13 e14 e15 e16 e17 e18 e19 e20 e21 e22 e23 : Nat} {s0 s1 s2 s3 s4 s5 s6 s7 s8 s9 s10 s11 s12 s13 s14 s15 s16 s17 s18 s19 s20 s21 s22 s23 : Bool} {q0 q1 q2 q3 q4 q5 q6 q7 : Rat} {z0 z1 z2 z3 z4 z5 z6 z7 z8 z9 z10 z11 : Int} {L L0 L1 x y : Nat} {k : Int} {b : Bool} {w : World}
variable {o0 o1 o2 o3 : Option Rat} {l l' : List Sp}
theorem rok_parts {r : Rw} (h : r.ok = true) : endB r.f r.s r.a r.b = true ∧ endB r.h r.t r.c r.d = true ∧ (r.f || (r.h || decide (rq r.s r.a r.b < rq r.t r.c r.d))) = true := by
  have h : (endB r.f r.s r.a r.b && (endB r.h r.t r.c r.d && (r.f || (r.h || decide (rq r.s r.a r.b < rq r.t r.c r.d))))) = true := h
  rw [Bool.and_eq_true, Bool.and_eq_true] at h
  exact h
theorem rwe_spe {cs : List Value} {r : Rw} (hF : Few r) (hk : r.ok = true) (h : RwE w cs r) : SpE w 4 cs r.sp := by
  obtain ⟨A0, n0, c0, D0, m0, e0, A1, n1, c1, D1, m1, e1, h1, r0, r1, r2, r3⟩ := h
  obtain ⟨k1, k2, _⟩ := rok_parts hk
  exact ⟨r.s, A0, n0, c0, D0, m0, e0, r.t, A1, n1, c1, D1, m1, e1, r.f, r.h, h1, raw_end r0 r1 hF.1 hF.2.1 k1, raw_end r2 r3 hF.2.2.1 hF.2.2.2 k2⟩
theorem all2_map {R : List Value → Rw → Prop} {S : List Value → Sp → Prop} {g : Rw → Sp} {css : List (List Value)} {l : List Rw} (h : All2 R css l) (f : ∀ cs, ∀ r ∈ l, R cs r → S cs (g r)) : All2 S css (l.map g) := by
  induction l generalizing css with
  | nil => cases css <;> first | trivial | cases h
  | cons r l ih => cases css with
    | nil => cases h
    | cons cs css => exact ⟨f cs r (List.mem_cons_self ..) h.1, ih h.2 fun cs' r' hr => f cs' r' (List.mem_cons_of_mem _ hr)⟩
/-- A list of valid spans as it came in, read. -/
theorem rws_sps {v : Value} {l : List Rw} (hS : RwS w v l) (hF : ∀ r ∈ l, Few r) (hA : AllOk l) : SpS w 4 v (l.map Rw.sp) := by
  obtain ⟨css, h1, h2⟩ := hS
  exact ⟨css, h1, all2_map h2 fun cs r hr h => rwe_spe (hF r hr) (hA r hr) h⟩
theorem allok_ok {l : List Rw} (hA : AllOk l) : OkS (l.map Rw.sp) := by
  intro s hs a b h1 h2
  obtain ⟨r, hr, rfl⟩ := List.mem_map.1 hs
  obtain ⟨_, _, h3⟩ := rok_parts (hA r hr)
  have h1 : edO r.f (rq r.s r.a r.b) = some a := h1
  have h2 : edO r.h (rq r.t r.c r.d) = some b := h2
  cases hf : r.f
  · cases hh : r.h
    · rw [hf, hh] at h3
      rw [hf] at h1; rw [hh] at h2
      injection h1 with h1; injection h2 with h2
      subst h1 h2
      simpa using h3
    · rw [hh] at h2; cases h2
  · rw [hf] at h1; cases h1
theorem vspan_b {da db dc de : List Nat} {kb : Bool} (r0 : Raw w (.slice A0 n0 c0) da) (r1 : Raw w (.slice D0 m0 e0) db) (r2 : Raw w (.slice A1 n1 c1) dc) (r3 : Raw w (.slice D1 m1 e1) de) (l0 : da.length ≤ 4) (l1 : db.length ≤ 4) (l2 : dc.length ≤ 4) (l3 : de.length ≤ 4) (hk : rwOk s0 da db s1 dc de f0 h0 = kb) : Calls Tryz.prog 12 #[.agg #[.bool s0, .slice A0 n0 c0, .slice D0 m0 e0, .bool s1, .slice A1 n1 c1, .slice D1 m1 e1, .bool f0, .bool h0]] w fun e w' => e = .returned (.bool kb) ∧ Below w.heap.size w w' := by subst hk; exact vspan_r r0 r1 r2 r3 l0 l1 l2 l3
set_option maxRecDepth 100000 in
set_option maxHeartbeats 4000000 in
theorem vclos_r {da db dc de : List Nat} {kb : Bool} (r0 : Raw w (.slice A0 n0 c0) da) (r1 : Raw w (.slice D0 m0 e0) db) (r2 : Raw w (.slice A1 n1 c1) dc) (r3 : Raw w (.slice D1 m1 e1) de) (l0 : da.length ≤ 4) (l1 : db.length ≤ 4) (l2 : dc.length ≤ 4) (l3 : de.length ≤ 4) (hk : rwOk s0 da db s1 dc de f0 h0 = kb) :
    Calls Tryz.prog 94 #[.agg #[.bool s0, .slice A0 n0 c0, .slice D0 m0 e0, .bool s1, .slice A1 n1 c1, .slice D1 m1 e1, .bool f0, .bool h0]] w fun e w' => e = .returned (.bool (!kb)) ∧ Below w.heap.size w w' := by
  have HK := Lib.hid hk
  clear hk
  go_enter Tryz.func94, Tryz.ntmps94
  go_wp2_with fail
  obtain ⟨W0, hW, b0, hbW, hszW0⟩ := boxes1 w #[.bool s0, .slice A0 n0 c0, .slice D0 m0 e0, .bool s1, .slice A1 n1 c1, .slice D1 m1 e1, .bool f0, .bool h0] 32
  rw [hW]
  clear hW
  replace r0 := r0.below hbW
  replace r1 := r1.below hbW
  replace r2 := r2.below hbW
  replace r3 := r3.below hbW
  have H0 := hbW
  clear hbW
  have cb00 := b0.cell 0 _ rfl
  have cb01 := b0.cell 1 _ rfl
  have cb02 := b0.cell 2 _ rfl
  have cb03 := b0.cell 3 _ rfl
  have cb04 := b0.cell 4 _ rfl
  have cb05 := b0.cell 5 _ rfl
  have cb06 := b0.cell 6 _ rfl
  have cb07 := b0.cell 7 _ rfl
  go_wp2_with fail
  clear cb00 cb01 cb02 cb03 cb04 cb05 cb06 cb07
  refine (vspan_b r0 r1 r2 r3 l0 l1 l2 l3 HK.out).mono ?_
  rintro e w1 ⟨rfl, hb⟩
  replace r0 := r0.below hb
  replace r1 := r1.below hb
  replace r2 := r2.below hb
  replace r3 := r3.below hb
  replace b0 := b0.below hb
  replace H0 := H0.trans (hb.mono H0.size)
  clear hb
  go_wp2_with fail
  go_returns
  exact ⟨rfl, H0⟩
set_option maxRecDepth 100000 in
set_option maxHeartbeats 4000000 in
theorem vindex_f {v : Value} {l : List Rw} (hS : RwS w v l) (hF : ∀ r ∈ l, Few r) (hN : ¬ AllOk l) :
    Calls Tryz.prog 109 #[v, .func (.func 94) #[] #[]] w fun e w' => (∃ i : Nat, e = .returned (.int .i64 (i : Int))) ∧ Below w.heap.size w w' := by
  obtain ⟨A, c, rfl, hc1, hc2⟩ := hS.form
  unfold maxLen at hc2
  have HN := Lib.hid hN
  clear hN
  go_enter Tryz.func109, Tryz.ntmps109
  go_wp2_with fail
  go_loopw [5, 8] (fun _ t8 wr => ∃ i : Nat, i ≤ l.length ∧ t8 = .int .i64 i ∧ (∀ x ∈ l.take i, x.ok = true) ∧ Below w.heap.size w wr) (fun _ t8 _ => l.length - (intOf t8).toNat)
  case atStart => exact ⟨0, Nat.zero_le _, rfl, fun x hx => (by cases hx), Below.refl _ _⟩
  case round =>
    obtain ⟨i, hi, rfl, hok, H0⟩ := hrel
    have HOK := Lib.hid hok
    clear hok
    by_cases hlt : i < l.length
    · obtain ⟨r, hsp⟩ : ∃ s, l[i]? = some s := ⟨_, List.getElem?_eq_getElem hlt⟩
      obtain ⟨g, o, A0, n0, c0, D0, m0, e0, A1, n1, c1, D1, m1, e1, rfl, cc0, cc1, cc2, cc3, cc4, cc5, cc6, cc7, r0, r1, r2, r3⟩ := (hS.below H0).elem hsp
      obtain ⟨l0, l1, l2, l3⟩ := hF r (List.mem_of_getElem? hsp)
      have HSP := Lib.hid hsp
      clear hS hF hsp
      obtain ⟨kb, hkb⟩ : ∃ k, r.ok = k := ⟨_, rfl⟩
      have HKB := Lib.hid hkb
      clear hkb
      go_wp2_with fail
      refine (vclos_r r0 r1 r2 r3 l0 l1 l2 l3 HKB.out).mono ?_
      rintro e w1 ⟨rfl, hb⟩
      replace H0 := H0.trans (hb.mono H0.size)
      clear hb r0 r1 r2 r3 cc0 cc1 cc2 cc3 cc4 cc5 cc6 cc7
      cases kb
      · go_wp2_with fail
        go_ret
        exact ⟨⟨i, rfl⟩, H0⟩
      · go_wp2_with fail
        go_roundw
        case rel => exact ⟨i + 1, by omega, by go_num, allok_take HOK.out HSP.out HKB.out, H0⟩
        case measure => simp [intOf]; omega
    · obtain rfl : i = l.length := by omega
      exact absurd (by have := HOK.out; rw [List.take_length] at this; exact this) HN.out
set_option maxRecDepth 100000 in
set_option maxHeartbeats 4000000 in
theorem vcont_f {v : Value} {l : List Rw} (hS : RwS w v l) (hF : ∀ r ∈ l, Few r) (hN : ¬ AllOk l) :
    Calls Tryz.prog 79 #[v, .func (.func 94) #[] #[]] w fun e w' => e = .returned (.bool true) ∧ Below w.heap.size w w' := by
  go_enter Tryz.func79, Tryz.ntmps79
  go_wp2_with fail
  refine (vindex_f hS hF hN).mono ?_
  rintro e w0 ⟨⟨i, rfl⟩, hb⟩
  have H0 := hb
  clear hb
  have hd : decide ((0 : Int) ≤ (i : Int)) = true := decide_eq_true (by omega)
  go_wp2_with fail
  go_returns
  exact ⟨rfl, H0⟩
set_option maxRecDepth 100000 in
set_option maxHeartbeats 4000000 in
theorem vlist_f {v : Value} {l : List Rw} (hS : RwS w v l) (hF : ∀ r ∈ l, Few r) (hn : l.length ≤ 4096) (hN : ¬ AllOk l) :
    Calls Tryz.prog 54 #[v] w fun e w' => e = .returned (.bool false) ∧ Below w.heap.size w w' := by
  obtain ⟨A, c, hv, hc1, hc2⟩ := hS.form
  subst hv
  unfold maxLen at hc2
  have h49 : decide ((4096 : Int) < (l.length : Int)) = false := by rw [decide_eq_false_iff_not]; omega
  go_enter Tryz.func54, Tryz.ntmps54
  go_wp2_with fail
  refine (vcont_f hS hF hN).mono ?_
  rintro e w0 ⟨rfl, hb⟩
  have H0 := hb
  clear hb
  go_wp2_with fail
  go_returns
  exact ⟨rfl, H0⟩
set_option maxRecDepth 100000 in
set_option maxHeartbeats 4000000 in
theorem before_r {o1 o2 : Option Rat} {kb : Bool} (y1 : EndV w 4 s1 (.slice A1 n1 c1) (.slice D1 m1 e1) h0 o1) (y2 : EndV w 4 s2 (.slice A2 n2 c2) (.slice D2 m2 e2) f1 o2) (hk : befB o1 o2 = kb) :
    Calls Tryz.prog 55 #[.agg #[.bool s0, .slice A0 n0 c0, .slice D0 m0 e0, .bool s1, .slice A1 n1 c1, .slice D1 m1 e1, .bool f0, .bool h0], .agg #[.bool s2, .slice A2 n2 c2, .slice D2 m2 e2, .bool s3, .slice A3 n3 c3, .slice D3 m3 e3, .bool f1, .bool h1]] w fun e w' => e = .returned (.bool kb) ∧ Below w.heap.size w w' := by
  rcases o1 with _ | p
  · obtain ⟨rfl, -, -, -⟩ := y1.no rfl
    clear y1 y2
    go_enter Tryz.func55, Tryz.ntmps55
    go_wp2_with fail
    obtain ⟨W0, hW, b0, b1, hbW, hszW0⟩ := boxes2 w #[.bool s0, .slice A0 n0 c0, .slice D0 m0 e0, .bool s1, .slice A1 n1 c1, .slice D1 m1 e1, .bool f0, .bool true] #[.bool s2, .slice A2 n2 c2, .slice D2 m2 e2, .bool s3, .slice A3 n3 c3, .slice D3 m3 e3, .bool f1, .bool h1] 32 32
    rw [hW]
    clear hW
    have H0 := hbW
    clear hbW
    have cb00 := b0.cell 0 _ rfl
    have cb01 := b0.cell 1 _ rfl
    have cb02 := b0.cell 2 _ rfl
    have cb03 := b0.cell 3 _ rfl
    have cb04 := b0.cell 4 _ rfl
    have cb05 := b0.cell 5 _ rfl
    have cb06 := b0.cell 6 _ rfl
    have cb07 := b0.cell 7 _ rfl
    have cb10 := b1.cell 0 _ rfl
    have cb11 := b1.cell 1 _ rfl
    have cb12 := b1.cell 2 _ rfl
    have cb13 := b1.cell 3 _ rfl
    have cb14 := b1.cell 4 _ rfl
    have cb15 := b1.cell 5 _ rfl
    have cb16 := b1.cell 6 _ rfl
    have cb17 := b1.cell 7 _ rfl
    go_wp2_with fail
    clear cb00 cb01 cb02 cb03 cb04 cb05 cb06 cb07 cb10 cb11 cb12 cb13 cb14 cb15 cb16 cb17
    go_returns
    exact ⟨by rw [← hk]; rfl, H0⟩
  · obtain ⟨rfl, k0⟩ := y1.yes rfl
    rcases o2 with _ | q
    · obtain ⟨rfl, -, -, -⟩ := y2.no rfl
      clear y1 y2 k0
      go_enter Tryz.func55, Tryz.ntmps55
      go_wp2_with fail
      obtain ⟨W0, hW, b0, b1, hbW, hszW0⟩ := boxes2 w #[.bool s0, .slice A0 n0 c0, .slice D0 m0 e0, .bool s1, .slice A1 n1 c1, .slice D1 m1 e1, .bool f0, .bool false] #[.bool s2, .slice A2 n2 c2, .slice D2 m2 e2, .bool s3, .slice A3 n3 c3, .slice D3 m3 e3, .bool true, .bool h1] 32 32
      rw [hW]
      clear hW
      have H0 := hbW
      clear hbW
      have cb00 := b0.cell 0 _ rfl
      have cb01 := b0.cell 1 _ rfl
      have cb02 := b0.cell 2 _ rfl
      have cb03 := b0.cell 3 _ rfl
      have cb04 := b0.cell 4 _ rfl
      have cb05 := b0.cell 5 _ rfl
      have cb06 := b0.cell 6 _ rfl
      have cb07 := b0.cell 7 _ rfl
      have cb10 := b1.cell 0 _ rfl
      have cb11 := b1.cell 1 _ rfl
      have cb12 := b1.cell 2 _ rfl
      have cb13 := b1.cell 3 _ rfl
      have cb14 := b1.cell 4 _ rfl
      have cb15 := b1.cell 5 _ rfl
      have cb16 := b1.cell 6 _ rfl
      have cb17 := b1.cell 7 _ rfl
      go_wp2_with fail
      clear cb00 cb01 cb02 cb03 cb04 cb05 cb06 cb07 cb10 cb11 cb12 cb13 cb14 cb15 cb16 cb17
      go_returns
      exact ⟨by rw [← hk]; rfl, H0⟩
    · obtain ⟨rfl, k1⟩ := y2.yes rfl
      clear y1 y2
      rcases rsg_tri p q with ⟨hs, hd9⟩ | ⟨hs, hd9⟩ | ⟨hs, hd9⟩
      · obtain rfl : kb = true := by rw [← hk]; exact decide_eq_true hd9
        have HS := Lib.hid hs
        clear hs hd9 hk
        go_enter Tryz.func55, Tryz.ntmps55
        go_wp2_with fail
        obtain ⟨W0, hW, b0, b1, hbW, hszW0⟩ := boxes2 w #[.bool s0, .slice A0 n0 c0, .slice D0 m0 e0, .bool s1, .slice A1 n1 c1, .slice D1 m1 e1, .bool f0, .bool false] #[.bool s2, .slice A2 n2 c2, .slice D2 m2 e2, .bool s3, .slice A3 n3 c3, .slice D3 m3 e3, .bool false, .bool h1] 32 32
        rw [hW]
        clear hW
        replace k0 := k0.below hbW
        replace k1 := k1.below hbW
        have H0 := hbW
        clear hbW
        have cb00 := b0.cell 0 _ rfl
        have cb01 := b0.cell 1 _ rfl
        have cb02 := b0.cell 2 _ rfl
        have cb03 := b0.cell 3 _ rfl
        have cb04 := b0.cell 4 _ rfl
        have cb05 := b0.cell 5 _ rfl
        have cb06 := b0.cell 6 _ rfl
        have cb07 := b0.cell 7 _ rfl
        have cb10 := b1.cell 0 _ rfl
        have cb11 := b1.cell 1 _ rfl
        have cb12 := b1.cell 2 _ rfl
        have cb13 := b1.cell 3 _ rfl
        have cb14 := b1.cell 4 _ rfl
        have cb15 := b1.cell 5 _ rfl
        have cb16 := b1.cell 6 _ rfl
        have cb17 := b1.cell 7 _ rfl
        go_wp2_with fail
        clear cb00 cb01 cb02 cb03 cb04 cb05 cb06 cb07 cb10 cb11 cb12 cb13 cb14 cb15 cb16 cb17
        refine (rcmp_v k0.rq k1.rq (by decide) (by decide) HS.out).mono ?_
        rintro e w1 ⟨rfl, hb⟩
        replace k0 := k0.below hb
        replace k1 := k1.below hb
        replace b0 := b0.below hb
        replace b1 := b1.below hb
        replace H0 := H0.trans (hb.mono H0.size)
        clear hb
        go_wp2_with fail
        go_returns
        exact ⟨rfl, H0⟩
      · obtain rfl : kb = false := by rw [← hk]; exact decide_eq_false (by grind)
        have HS := Lib.hid hs
        clear hs hd9 hk
        go_enter Tryz.func55, Tryz.ntmps55
        go_wp2_with fail
        obtain ⟨W0, hW, b0, b1, hbW, hszW0⟩ := boxes2 w #[.bool s0, .slice A0 n0 c0, .slice D0 m0 e0, .bool s1, .slice A1 n1 c1, .slice D1 m1 e1, .bool f0, .bool false] #[.bool s2, .slice A2 n2 c2, .slice D2 m2 e2, .bool s3, .slice A3 n3 c3, .slice D3 m3 e3, .bool false, .bool h1] 32 32
        rw [hW]
        clear hW
        replace k0 := k0.below hbW
        replace k1 := k1.below hbW
        have H0 := hbW
        clear hbW
        have cb00 := b0.cell 0 _ rfl
        have cb01 := b0.cell 1 _ rfl
        have cb02 := b0.cell 2 _ rfl
        have cb03 := b0.cell 3 _ rfl
        have cb04 := b0.cell 4 _ rfl
        have cb05 := b0.cell 5 _ rfl
        have cb06 := b0.cell 6 _ rfl
        have cb07 := b0.cell 7 _ rfl
        have cb10 := b1.cell 0 _ rfl
        have cb11 := b1.cell 1 _ rfl
        have cb12 := b1.cell 2 _ rfl
        have cb13 := b1.cell 3 _ rfl
        have cb14 := b1.cell 4 _ rfl
        have cb15 := b1.cell 5 _ rfl
        have cb16 := b1.cell 6 _ rfl
        have cb17 := b1.cell 7 _ rfl
        go_wp2_with fail
        clear cb00 cb01 cb02 cb03 cb04 cb05 cb06 cb07 cb10 cb11 cb12 cb13 cb14 cb15 cb16 cb17
        refine (rcmp_v k0.rq k1.rq (by decide) (by decide) HS.out).mono ?_
        rintro e w1 ⟨rfl, hb⟩
        replace k0 := k0.below hb
        replace k1 := k1.below hb
        replace b0 := b0.below hb
        replace b1 := b1.below hb
        replace H0 := H0.trans (hb.mono H0.size)
        clear hb
        go_wp2_with fail
        go_returns
        exact ⟨rfl, H0⟩
      · obtain rfl : kb = false := by rw [← hk]; exact decide_eq_false (by grind)
        have HS := Lib.hid hs
        clear hs hd9 hk
        go_enter Tryz.func55, Tryz.ntmps55
        go_wp2_with fail
        obtain ⟨W0, hW, b0, b1, hbW, hszW0⟩ := boxes2 w #[.bool s0, .slice A0 n0 c0, .slice D0 m0 e0, .bool s1, .slice A1 n1 c1, .slice D1 m1 e1, .bool f0, .bool false] #[.bool s2, .slice A2 n2 c2, .slice D2 m2 e2, .bool s3, .slice A3 n3 c3, .slice D3 m3 e3, .bool false, .bool h1] 32 32
        rw [hW]
        clear hW
        replace k0 := k0.below hbW
        replace k1 := k1.below hbW
        have H0 := hbW
        clear hbW
        have cb00 := b0.cell 0 _ rfl
        have cb01 := b0.cell 1 _ rfl
        have cb02 := b0.cell 2 _ rfl
        have cb03 := b0.cell 3 _ rfl
        have cb04 := b0.cell 4 _ rfl
        have cb05 := b0.cell 5 _ rfl
        have cb06 := b0.cell 6 _ rfl
        have cb07 := b0.cell 7 _ rfl
        have cb10 := b1.cell 0 _ rfl
        have cb11 := b1.cell 1 _ rfl
        have cb12 := b1.cell 2 _ rfl
        have cb13 := b1.cell 3 _ rfl
        have cb14 := b1.cell 4 _ rfl
        have cb15 := b1.cell 5 _ rfl
        have cb16 := b1.cell 6 _ rfl
        have cb17 := b1.cell 7 _ rfl
        go_wp2_with fail
        clear cb00 cb01 cb02 cb03 cb04 cb05 cb06 cb07 cb10 cb11 cb12 cb13 cb14 cb15 cb16 cb17
        refine (rcmp_v k0.rq k1.rq (by decide) (by decide) HS.out).mono ?_
        rintro e w1 ⟨rfl, hb⟩
        replace k0 := k0.below hb
        replace k1 := k1.below hb
        replace b0 := b0.below hb
        replace b1 := b1.below hb
        replace H0 := H0.trans (hb.mono H0.size)
        clear hb
        go_wp2_with fail
        go_returns
        exact ⟨rfl, H0⟩
set_option maxRecDepth 100000 in
set_option maxHeartbeats 4000000 in
theorem valid_f {v : Value} {l : List Rw} (hS : RwS w v l) (hF : ∀ r ∈ l, Few r) (hn : l.length ≤ 4096) (hN : ¬ SetOk l) :
    Calls Tryz.prog 17 #[v] w fun e w' => e = .returned (.bool false) ∧ Below w.heap.size w w' := by
  have HN := Lib.hid hN
  clear hN
  by_cases hA : AllOk l
  · have hM := rws_sps hS hF hA
    have HO := Lib.hid (allok_ok hA)
    have HS9 : Hid (¬ SepS (l.map Rw.sp)) := Lib.hid (fun hs => HN.out ⟨hA, hs⟩)
    have hn9 : (l.map Rw.sp).length ≤ 4096 := by rw [List.length_map]; exact hn
    clear hS hF hA HN hn
    generalize l.map Rw.sp = M at hM HO HS9 hn9
    obtain ⟨A, c, rfl, hc1, hc2⟩ := hM.form
    unfold maxLen at hc2
    go_enter Tryz.func17, Tryz.ntmps17
    go_wp2_with fail
    refine (vlist_v hM HO.out hn9 (by omega)).mono ?_
    rintro e w1 ⟨rfl, hb⟩
    have H9 := hb
    clear hb
    go_wp2_with fail
    go_loopw [3] (fun t3 wr => ∃ k : Nat, t3 = .int .i64 ((k : Int) + 1) ∧ k ≤ M.length ∧ SepTo M k ∧ Below w.heap.size w wr) (fun t3 _ => M.length + 1 - (intOf t3).toNat)
    case atStart => exact ⟨0, rfl, by omega, fun i s t h => absurd h (Nat.not_lt_zero _), H9⟩
    case round =>
      clear H9
      obtain ⟨k, rfl, hk, hs1, H0⟩ := hrel
      have HS1 := Lib.hid hs1
      clear hs1
      by_cases hlt : k + 1 < M.length
      · obtain ⟨sp, hsp⟩ : ∃ s, M[k]? = some s := ⟨_, List.getElem?_eq_getElem (show k < M.length by omega)⟩
        obtain ⟨tp, htp⟩ : ∃ s, M[k + 1]? = some s := ⟨_, List.getElem?_eq_getElem hlt⟩
        obtain ⟨g, o, s0, A0, n0, c0, D0, m0, e0, s1, A1, n1, c1, D1, m1, e1, f0, h0, eA, cc0, cc1, cc2, cc3, cc4, cc5, cc6, cc7, y0, y1⟩ := (hM.below H0).elem hsp
        obtain ⟨g', o', s2, A2, n2, c2, D2, m2, e2, s3, A3, n3, c3, D3, m3, e3, f1, h1, eA', dd0, dd1, dd2, dd3, dd4, dd5, dd6, dd7, y2, y3⟩ := (hM.below H0).elem htp
        rw [eA] at eA'
        injection eA' with eA'
        injection eA' with q1_ q2_
        subst q1_ q2_ eA
        have HSP := Lib.hid hsp
        have HTP := Lib.hid htp
        obtain ⟨kb, hkb⟩ : ∃ b, befB sp.hi tp.lo = b := ⟨_, rfl⟩
        have HKB := Lib.hid hkb
        clear hsp htp hM y0 y3 hkb
        have hw1 : IntKind.i64.wrap (k : Int) = k := IntWalk.i64_in _ (by omega)
        have hw2 : ((k : Int) + 1).toNat = k + 1 := by omega
        have hd : decide ((k : Int) + 1 < (M.length : Int)) = true := decide_eq_true (by omega)
        have hb0 : k < M.length := by omega
        have hb1 : (0 : Int) ≤ (k : Int) + 1 := by omega
        have hb2 : (k : Int) + 1 < (M.length : Int) := by omega
        clear hlt
        have p0 : CellF wr _ _ := cc0
        have r0 : CellF wr _ _ := dd0
        have p1 : CellF wr _ _ := cc1
        have r1 : CellF wr _ _ := dd1
        have p2 : CellF wr _ _ := cc2
        have r2 : CellF wr _ _ := dd2
        have p3 : CellF wr _ _ := cc3
        have r3 : CellF wr _ _ := dd3
        have p4 : CellF wr _ _ := cc4
        have r4 : CellF wr _ _ := dd4
        have p5 : CellF wr _ _ := cc5
        have r5 : CellF wr _ _ := dd5
        have p6 : CellF wr _ _ := cc6
        have r6 : CellF wr _ _ := dd6
        have p7 : CellF wr _ _ := cc7
        have r7 : CellF wr _ _ := dd7
        clear cc0 dd0 cc1 dd1 cc2 dd2 cc3 dd3 cc4 dd4 cc5 dd5 cc6 dd6 cc7 dd7
        go_wp2_with fail
        have hD := drawn_below wr
        replace y1 := y1.below hD
        replace y2 := y2.below hD
        replace p0 := p0.below hD
        replace p1 := p1.below hD
        replace p2 := p2.below hD
        replace p3 := p3.below hD
        replace p4 := p4.below hD
        replace p5 := p5.below hD
        replace p6 := p6.below hD
        replace p7 := p7.below hD
        replace r0 := r0.below hD
        replace r1 := r1.below hD
        replace r2 := r2.below hD
        replace r3 := r3.below hD
        replace r4 := r4.below hD
        replace r5 := r5.below hD
        replace r6 := r6.below hD
        replace r7 := r7.below hD
        replace H0 := H0.trans (hD.mono H0.size)
        clear hD
        refine wp_region_noPanic ?_
        refine wp_region_held_drew (S := (fun V => V.cell? ⟨g, o + k * 8, none⟩ = some (.bool s0) ∧ V.cell? ⟨g, o + k * 8 + 1, none⟩ = some (.slice A0 n0 c0) ∧ V.cell? ⟨g, o + k * 8 + 2, none⟩ = some (.slice D0 m0 e0) ∧ V.cell? ⟨g, o + k * 8 + 3, none⟩ = some (.bool s1) ∧ V.cell? ⟨g, o + k * 8 + 4, none⟩ = some (.slice A1 n1 c1) ∧ V.cell? ⟨g, o + k * 8 + 5, none⟩ = some (.slice D1 m1 e1) ∧ V.cell? ⟨g, o + k * 8 + 6, none⟩ = some (.bool f0) ∧ V.cell? ⟨g, o + k * 8 + 7, none⟩ = some (.bool h0) ∧ V.cell? ⟨g, o + (k + 1) * 8, none⟩ = some (.bool s2) ∧ V.cell? ⟨g, o + (k + 1) * 8 + 1, none⟩ = some (.slice A2 n2 c2) ∧ V.cell? ⟨g, o + (k + 1) * 8 + 2, none⟩ = some (.slice D2 m2 e2) ∧ V.cell? ⟨g, o + (k + 1) * 8 + 3, none⟩ = some (.bool s3) ∧ V.cell? ⟨g, o + (k + 1) * 8 + 4, none⟩ = some (.slice A3 n3 c3) ∧ V.cell? ⟨g, o + (k + 1) * 8 + 5, none⟩ = some (.slice D3 m3 e3) ∧ V.cell? ⟨g, o + (k + 1) * 8 + 6, none⟩ = some (.bool f1) ∧ V.cell? ⟨g, o + (k + 1) * 8 + 7, none⟩ = some (.bool h1))) (by kernel_rfl) ⟨p0.eq, p1.eq, p2.eq, p3.eq, p4.eq, p5.eq, p6.eq, p7.eq, r0.eq, r1.eq, r2.eq, r3.eq, r4.eq, r5.eq, r6.eq, r7.eq⟩ (fun hHeld => ?_)
        generalize wr.drew = v100 at H0 hHeld y1 y2 p0 p1 p2 p3 p4 p5 p6 p7 r0 r1 r2 r3 r4 r5 r6 r7 ⊢
        refine wpAnyH_take (i := 0) (v := ?_) rfl (by kernel_rfl) (by kernel_rfl) (by kernel_rfl) (fun _ _ _ h => h) (Or.inl ⟨by rfl, ?_⟩) (by assumption) ?_
        rotate_left
        · (intro w hSw; (try dsimp only at hSw); go_simp; (try with_reducible rfl))
        (try simp only [List.getElem_toArray, List.getElem_cons_zero, Act.put, List.setIfInBounds_toArray, List.set_cons_zero, List.set_cons_succ])
        refine wpAnyH_take (i := 1) (v := ?_) rfl (by kernel_rfl) (by kernel_rfl) (by kernel_rfl) (fun _ _ _ h => h) (Or.inl ⟨by rfl, ?_⟩) (by assumption) ?_
        rotate_left
        · (intro w hSw; (try dsimp only at hSw); go_simp; (try with_reducible rfl))
        (try simp only [List.getElem_toArray, List.getElem_cons_succ, List.getElem_cons_zero, Act.put, List.setIfInBounds_toArray, List.set_cons_zero, List.set_cons_succ])
        refine wpAnyH_take (i := 5) (v := ?_) rfl (by kernel_rfl) (by kernel_rfl) (by kernel_rfl) (fun _ _ _ h => h) (Or.inl ⟨by rfl, ?_⟩) (by assumption) ?_
        rotate_left
        · (intro w hSw; (try dsimp only at hSw); go_simp; (try with_reducible rfl))
        (try simp only [List.getElem_toArray, List.getElem_cons_succ, List.getElem_cons_zero, Act.put, List.setIfInBounds_toArray, List.set_cons_zero, List.set_cons_succ])
        refine wpAnyH_take (i := 6) (v := ?_) rfl (by kernel_rfl) (by kernel_rfl) (by kernel_rfl) (fun _ _ _ h => h) (Or.inl ⟨by rfl, ?_⟩) (by assumption) ?_
        rotate_left
        · (intro w hSw; (try dsimp only at hSw); go_simp; (try with_reducible rfl))
        (try simp only [List.getElem_toArray, List.getElem_cons_succ, List.getElem_cons_zero, Act.put, List.setIfInBounds_toArray, List.set_cons_zero, List.set_cons_succ])
        refine wpAnyH_take (i := 2) (v := ?_) rfl (by kernel_rfl) (by kernel_rfl) (by kernel_rfl) (fun _ _ _ h => h) (Or.inl ⟨by rfl, ?_⟩) (by assumption) ?_
        rotate_left
        · (intro w hSw; (try dsimp only at hSw); go_simp; (try with_reducible rfl))
        (try simp only [List.getElem_toArray, List.getElem_cons_succ, List.getElem_cons_zero, Act.put, List.setIfInBounds_toArray, List.set_cons_zero, List.set_cons_succ])
        refine wpAnyH_take (i := 7) (v := ?_) rfl (by kernel_rfl) (by kernel_rfl) (by kernel_rfl) (fun _ _ _ h => h) (Or.inl ⟨by rfl, ?_⟩) (by assumption) ?_
        rotate_left
        · (intro w hSw; (try dsimp only at hSw); go_simp; (try with_reducible rfl))
        (try simp only [List.getElem_toArray, List.getElem_cons_succ, List.getElem_cons_zero, Act.put, List.setIfInBounds_toArray, List.set_cons_zero, List.set_cons_succ])
        refine wpAnyH_take (i := 3) (v := ?_) rfl (by kernel_rfl) (by kernel_rfl) (by kernel_rfl) (fun _ _ _ h => h) (Or.inl ⟨by rfl, ?_⟩) (by assumption) ?_
        rotate_left
        · (intro w hSw; (try dsimp only at hSw); go_simp; (try with_reducible rfl))
        (try simp only [List.getElem_toArray, List.getElem_cons_succ, List.getElem_cons_zero, Act.put, List.setIfInBounds_toArray, List.set_cons_zero, List.set_cons_succ])
        refine wpAnyH_take (i := 8) (v := ?_) rfl (by kernel_rfl) (by kernel_rfl) (by kernel_rfl) (fun _ _ _ h => h) (Or.inl ⟨by rfl, ?_⟩) (by assumption) ?_
        rotate_left
        · (intro w hSw; (try dsimp only at hSw); go_simp; (try with_reducible rfl))
        (try simp only [List.getElem_toArray, List.getElem_cons_succ, List.getElem_cons_zero, Act.put, List.setIfInBounds_toArray, List.set_cons_zero, List.set_cons_succ])
        refine wpAnyH_take (i := 4) (v := ?_) rfl (by kernel_rfl) (by kernel_rfl) (by kernel_rfl) (fun _ _ _ h => h) (Or.inl ⟨by rfl, ?_⟩) (by assumption) ?_
        rotate_left
        · (intro w hSw; (try dsimp only at hSw); go_simp; (try with_reducible rfl))
        (try simp only [List.getElem_toArray, List.getElem_cons_succ, List.getElem_cons_zero, Act.put, List.setIfInBounds_toArray, List.set_cons_zero, List.set_cons_succ])
        refine wpAnyH_ready (rs := [9]) (by kernel_rfl) (by simp) (AllReadyH.cons (o := _) rfl (fun K hK => ?_) AllReadyH.nil)
        go_simp
        go_at_call 55
        refine (before_r y1 y2 HKB.out).mono ?_
        rintro e w101 ⟨rfl, hb⟩
        replace y1 := y1.below hb
        replace y2 := y2.below hb
        replace p0 := p0.below hb
        replace p1 := p1.below hb
        replace p2 := p2.below hb
        replace p3 := p3.below hb
        replace p4 := p4.below hb
        replace p5 := p5.below hb
        replace p6 := p6.below hb
        replace p7 := p7.below hb
        replace r0 := r0.below hb
        replace r1 := r1.below hb
        replace r2 := r2.below hb
        replace r3 := r3.below hb
        replace r4 := r4.below hb
        replace r5 := r5.below hb
        replace r6 := r6.below hb
        replace r7 := r7.below hb
        replace H0 := H0.trans (hb.mono H0.size)
        clear hb
        go_wp2_with fail
        refine hK.out _ _ ⟨p0.eq, p1.eq, p2.eq, p3.eq, p4.eq, p5.eq, p6.eq, p7.eq, r0.eq, r1.eq, r2.eq, r3.eq, r4.eq, r5.eq, r6.eq, r7.eq⟩ (fun hHeld => ?_)
        clear hK K
        (try simp only [List.getElem_toArray, List.getElem_cons_succ, List.getElem_cons_zero, Act.put, List.setIfInBounds_toArray, List.set_cons_zero, List.set_cons_succ])
        refine wpAnyH_take (i := 10) (v := ?_) rfl (by kernel_rfl) (by kernel_rfl) (by kernel_rfl) (fun _ _ _ h => h) (Or.inl ⟨by rfl, ?_⟩) (by assumption) ?_
        rotate_left
        · (intro w hSw; (try dsimp only at hSw); go_simp; (try with_reducible rfl))
        (try simp only [List.getElem_toArray, List.getElem_cons_succ, List.getElem_cons_zero, Act.put, List.setIfInBounds_toArray, List.set_cons_zero, List.set_cons_succ])
        refine wpAnyH_done (by kernel_rfl) ?_ _
        refine NoPanic.normal ?_
        cases kb
        · go_wp2_with fail
          go_ret
          exact ⟨rfl, H0⟩
        · go_wp2_with fail
          go_roundw
          case rel => exact ⟨k + 1, by go_num, by omega, sepTo_succ HS1.out HSP.out HTP.out HKB.out, H0⟩
          case measure => simp [intOf]; omega
      · exact absurd (sepTo_all HS1.out (by omega)) HS9.out
  · have HA := Lib.hid hA
    clear hA
    go_enter Tryz.func17, Tryz.ntmps17
    go_wp2_with fail
    refine (vlist_f hS hF hn HA.out).mono ?_
    rintro e w0 ⟨rfl, hb⟩
    have H0 := hb
    clear hb
    go_wp2_with fail
    go_returns
    exact ⟨rfl, H0⟩
set_option maxRecDepth 100000 in
set_option maxHeartbeats 4000000 in
theorem union_f {v : Value} {l : List Rw} (hS : RwS w v l) (hF : ∀ r ∈ l, Few r) (hn : l.length ≤ 4096) (hN : ¬ SetOk l) {t : TypeId} {a : Addr} (hE : w.cell? ⟨0, 0, none⟩ = some (.iface t (.pointer (some a)))) :
    Calls Tryz.prog 15 #[v, .slice none 0 0] w fun e w' => e = .returned (.tuple #[.slice none 0 0, .iface t (.pointer (some a))]) ∧ Below w.heap.size w w' := by
  have HN := Lib.hid hN
  have HG := Lib.hid (fun (W : World) (h : Below w.heap.size w W) => (h.cell (World.block_lt_of_cell? w _ hE)).trans hE)
  clear hN hE
  go_enter Tryz.func15, Tryz.ntmps15
  go_wp2_with fail
  refine (valid_f hS hF hn HN.out).mono ?_
  rintro e w0 ⟨rfl, hb⟩
  have H0 := hb
  clear hb
  go_wp2_with fail
  have hD := drawn_below w0
  replace H0 := H0.trans (hD.mono H0.size)
  clear hD
  refine wp_region_noPanic ?_
  refine wp_region_held_drew (S := (fun V => V.cell? ⟨0, 0, none⟩ = some (.iface t (.pointer (some a))))) (by kernel_rfl) (HG.out _ H0) (fun hHeld => ?_)
  generalize w0.drew = v1 at H0 hHeld  ⊢
  refine wpAnyH_take (i := 0) (v := ?_) rfl (by kernel_rfl) (by kernel_rfl) (by kernel_rfl) (fun _ _ _ h => h) (Or.inl ⟨by rfl, ?_⟩) (by assumption) ?_
  rotate_left
  · (intro w hSw; (try dsimp only at hSw); go_simp; (try with_reducible rfl))
  (try simp only [List.getElem_toArray, List.getElem_cons_zero, Act.put, List.setIfInBounds_toArray, List.set_cons_zero, List.set_cons_succ])
  refine wpAnyH_take (i := 1) (v := ?_) rfl (by kernel_rfl) (by kernel_rfl) (by kernel_rfl) (fun _ _ _ h => h) (Or.inl ⟨by rfl, ?_⟩) (by assumption) ?_
  rotate_left
  · (intro w hSw; (try dsimp only at hSw); go_simp; (try with_reducible rfl))
  (try simp only [List.getElem_toArray, List.getElem_cons_succ, List.getElem_cons_zero, Act.put, List.setIfInBounds_toArray, List.set_cons_zero, List.set_cons_succ])
  refine wpAnyH_take (i := 2) (v := ?_) rfl (by kernel_rfl) (by kernel_rfl) (by kernel_rfl) (fun _ _ _ h => h) (Or.inl ⟨by rfl, ?_⟩) (by assumption) ?_
  rotate_left
  · (intro w hSw; (try dsimp only at hSw); go_simp; (try with_reducible rfl))
  (try simp only [List.getElem_toArray, List.getElem_cons_succ, List.getElem_cons_zero, Act.put, List.setIfInBounds_toArray, List.set_cons_zero, List.set_cons_succ])
  refine wpAnyH_done (by kernel_rfl) ?_ _
  refine NoPanic.normal ?_
  go_wp2_with fail
  go_returns
  exact ⟨rfl, H0⟩
set_option maxRecDepth 100000 in
set_option maxHeartbeats 4000000 in
theorem compl_f {v : Value} {l : List Rw} (hS : RwS w v l) (hF : ∀ r ∈ l, Few r) (hn : l.length ≤ 4096) (hN : ¬ SetOk l) {t : TypeId} {a : Addr} (hE : w.cell? ⟨0, 0, none⟩ = some (.iface t (.pointer (some a)))) :
    Calls Tryz.prog 16 #[v] w fun e w' => e = .returned (.tuple #[.slice none 0 0, .iface t (.pointer (some a))]) ∧ Below w.heap.size w w' := by
  have HN := Lib.hid hN
  have HG := Lib.hid (fun (W : World) (h : Below w.heap.size w W) => (h.cell (World.block_lt_of_cell? w _ hE)).trans hE)
  clear hN hE
  go_enter Tryz.func16, Tryz.ntmps16
  go_wp2_with fail
  refine (valid_f hS hF hn HN.out).mono ?_
  rintro e w0 ⟨rfl, hb⟩
  have H0 := hb
  clear hb
  go_wp2_with fail
  have hD := drawn_below w0
  replace H0 := H0.trans (hD.mono H0.size)
  clear hD
  refine wp_region_noPanic ?_
  refine wp_region_held_drew (S := (fun V => V.cell? ⟨0, 0, none⟩ = some (.iface t (.pointer (some a))))) (by kernel_rfl) (HG.out _ H0) (fun hHeld => ?_)
  generalize w0.drew = v1 at H0 hHeld  ⊢
  refine wpAnyH_take (i := 0) (v := ?_) rfl (by kernel_rfl) (by kernel_rfl) (by kernel_rfl) (fun _ _ _ h => h) (Or.inl ⟨by rfl, ?_⟩) (by assumption) ?_
  rotate_left
  · (intro w hSw; (try dsimp only at hSw); go_simp; (try with_reducible rfl))
  (try simp only [List.getElem_toArray, List.getElem_cons_zero, Act.put, List.setIfInBounds_toArray, List.set_cons_zero, List.set_cons_succ])
  refine wpAnyH_take (i := 1) (v := ?_) rfl (by kernel_rfl) (by kernel_rfl) (by kernel_rfl) (fun _ _ _ h => h) (Or.inl ⟨by rfl, ?_⟩) (by assumption) ?_
  rotate_left
  · (intro w hSw; (try dsimp only at hSw); go_simp; (try with_reducible rfl))
  (try simp only [List.getElem_toArray, List.getElem_cons_succ, List.getElem_cons_zero, Act.put, List.setIfInBounds_toArray, List.set_cons_zero, List.set_cons_succ])
  refine wpAnyH_take (i := 2) (v := ?_) rfl (by kernel_rfl) (by kernel_rfl) (by kernel_rfl) (fun _ _ _ h => h) (Or.inl ⟨by rfl, ?_⟩) (by assumption) ?_
  rotate_left
  · (intro w hSw; (try dsimp only at hSw); go_simp; (try with_reducible rfl))
  (try simp only [List.getElem_toArray, List.getElem_cons_succ, List.getElem_cons_zero, Act.put, List.setIfInBounds_toArray, List.set_cons_zero, List.set_cons_succ])
  refine wpAnyH_done (by kernel_rfl) ?_ _
  refine NoPanic.normal ?_
  go_wp2_with fail
  go_returns
  exact ⟨rfl, H0⟩
set_option maxRecDepth 100000 in
set_option maxHeartbeats 4000000 in
theorem pclass_f {v : Value} {l : List Rw} (hS : RwS w v l) (hF : ∀ r ∈ l, Few r) (hn : l.length ≤ 4096) (hN : ¬ SetOk l) {t : TypeId} {a : Addr} (hE : w.cell? ⟨0, 0, none⟩ = some (.iface t (.pointer (some a)))) :
    Calls Tryz.prog 14 #[v, .agg #[.bool s4, .slice A4 n4 c4, .slice D4 m4 e4]] w fun e w' => e = .returned (.tuple #[.int .i64 0, .iface t (.pointer (some a))]) ∧ Below w.heap.size w w' := by
  have HN := Lib.hid hN
  have HG := Lib.hid (fun (W : World) (h : Below w.heap.size w W) => (h.cell (World.block_lt_of_cell? w _ hE)).trans hE)
  clear hN hE
  go_enter Tryz.func14, Tryz.ntmps14
  go_wp2_with fail
  obtain ⟨W0, hW, b3, hbW, hszW0⟩ := boxes1 w #[.bool s4, .slice A4 n4 c4, .slice D4 m4 e4] 28
  rw [hW]
  clear hW
  replace hS := hS.below hbW
  have H0 := hbW
  clear hbW
  clear hszW0
  go_wp2_with fail
  refine (valid_f hS hF hn HN.out).mono ?_
  rintro e w1 ⟨rfl, hb⟩
  replace hS := hS.below hb
  replace b3 := b3.below hb
  replace H0 := H0.trans (hb.mono H0.size)
  clear hb
  go_wp2_with fail
  clear hS
  clear b3
  have hD := drawn_below w1
  replace H0 := H0.trans (hD.mono H0.size)
  clear hD
  refine wp_region_noPanic ?_
  refine wp_region_held_drew (S := (fun V => V.cell? ⟨0, 0, none⟩ = some (.iface t (.pointer (some a))))) (by kernel_rfl) (HG.out _ H0) (fun hHeld => ?_)
  generalize w1.drew = v2 at H0 hHeld  ⊢
  refine wpAnyH_take (i := 0) (v := ?_) rfl (by kernel_rfl) (by kernel_rfl) (by kernel_rfl) (fun _ _ _ h => h) (Or.inl ⟨by rfl, ?_⟩) (by assumption) ?_
  rotate_left
  · (intro w hSw; (try dsimp only at hSw); go_simp; (try with_reducible rfl))
  (try simp only [List.getElem_toArray, List.getElem_cons_zero, Act.put, List.setIfInBounds_toArray, List.set_cons_zero, List.set_cons_succ])
  refine wpAnyH_take (i := 1) (v := ?_) rfl (by kernel_rfl) (by kernel_rfl) (by kernel_rfl) (fun _ _ _ h => h) (Or.inl ⟨by rfl, ?_⟩) (by assumption) ?_
  rotate_left
  · (intro w hSw; (try dsimp only at hSw); go_simp; (try with_reducible rfl))
  (try simp only [List.getElem_toArray, List.getElem_cons_succ, List.getElem_cons_zero, Act.put, List.setIfInBounds_toArray, List.set_cons_zero, List.set_cons_succ])
  refine wpAnyH_take (i := 2) (v := ?_) rfl (by kernel_rfl) (by kernel_rfl) (by kernel_rfl) (fun _ _ _ h => h) (Or.inl ⟨by rfl, ?_⟩) (by assumption) ?_
  rotate_left
  · (intro w hSw; (try dsimp only at hSw); go_simp; (try with_reducible rfl))
  (try simp only [List.getElem_toArray, List.getElem_cons_succ, List.getElem_cons_zero, Act.put, List.setIfInBounds_toArray, List.set_cons_zero, List.set_cons_succ])
  refine wpAnyH_done (by kernel_rfl) ?_ _
  refine NoPanic.normal ?_
  go_wp2_with fail
  go_returns
  exact ⟨rfl, H0⟩
end
end Go.Proofs.YtpgkkkodniiilaaGreatDoor
