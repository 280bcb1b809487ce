/-
  Raw spans: zero, validEnd, ValidSpan.
-/
import Derived.Test.YtpgkkkodniiilaaGreatDoorWVq
import Derived.Test.YtpgkkkodniiilaaGreatDoorWSA
namespace Go.Proofs.YtpgkkkodniiilaaGreatDoor
open Go.RowKit

section
variable {f0 h0 f1 h1 f2 h2 f3 h3 f4 h4 f5 h5 f6 h6 f7 h7 f8 h8 f9 h9 f10 h10 f11 h11 : Bool} {A0 A1 A2 A3 A4 A5 A6 A7 A8 A9 A10 A11 A12 A13 A14 A15 A16 A17 A18 A19 A20 A21 A22 A23 D0 D1 D2 D3 D4 D5 D6 D7 D8 D9 D10 D11 D12 D13 D14 D15 D16 D17 D18 D19 D20 D21 D22 D23 : Option Addr} {n0 n1 n2 n3 n4 n5 n6 n7 n8 n9 n10 n11 n12 n13 n14 n15 n16 n17 n18 n19 n20 n21 n22 n23 c0 c1 c2 c3 c4 c5 c6 c7 c8 c9 c10 c11 c12 c13 c14 c15 c16 c17 c18 c19 c20 c21 c22 c23 m0 m1 m2 m3 m4 m5 m6 m7 m8 m9 m10 m11 m12 m13 m14 m15 m16 m17 m18 m19 m20 m21 m22 m23 e0 e1 e2 e3 e4 e5 e6 e7 e8 e9 e10 e11 e12 e13 e14 e15 e16 e17 e18 e19 e20 e21 e22 e23 : Nat} {s0 s1 s2 s3 s4 s5 s6 s7 s8 s9 s10 s11 s12 s13 s14 s15 s16 s17 s18 s19 s20 s21 s22 s23 : Bool} {q0 q1 q2 q3 q4 q5 q6 q7 : Rat} {z0 z1 z2 z3 z4 z5 z6 z7 z8 z9 z10 z11 : Int} {L L0 L1 x y : Nat} {k : Int} {b : Bool} {w : World}
variable {o0 o1 o2 o3 : Option Rat} {l l' : List Sp}
theorem Raw.kept {v : Value} {ds : List Nat} {w' : World} {g : Nat} {cs : Array Value} {t : TypeId} (h : Raw w v ds) (hb : Box w g cs t) (hc : cs.all notInt = true) (hg : w.grownBy w' (some g)) : Raw w' v ds := Raw.keepBut h hg (Raw.apart h hb hc)
theorem raw_len {A : Option Addr} {n c : Nat} {ds : List Nat} (h : Raw w (.slice A n c) ds) : n = ds.length := h.cap.1
/-- An end's digits are those of the zero value. -/
def zb (s : Bool) (n m : Nat) : Bool := !s && (decide (n = 0) && decide (m = 0))
/-- An end as it came in is valid. -/
def endB (no s : Bool) (ds es : List Nat) : Bool := if no then zb s ds.length es.length else normQB s ds es
/-- What the digits of a number read as. -/
def rq (s : Bool) (ds es : List Nat) : Rat := mkRat (sg s (val ds)) (val es)
theorem raw_rq {da db : List Nat} (r0 : Raw w (.slice A0 n0 c0) da) (r1 : Raw w (.slice D0 m0 e0) db) (l0 : da.length ≤ L) (l1 : db.length ≤ L) : RQ w s0 (.slice A0 n0 c0) (.slice D0 m0 e0) (rq s0 da db) L := ⟨_, _, ⟨_, r0.rv.more l0, rfl⟩, r1.rv.more l1, rfl⟩
theorem raw_nq {da db : List Nat} (r0 : Raw w (.slice A0 n0 c0) da) (r1 : Raw w (.slice D0 m0 e0) db) (l0 : da.length ≤ L) (l1 : db.length ≤ L) (hn : normQB s0 da db = true) : NQ w s0 (.slice A0 n0 c0) (.slice D0 m0 e0) (rq s0 da db) L := by
  unfold normQB normIB at hn
  simp only [Bool.and_eq_true, decide_eq_true_eq, normB_iff, Bool.not_eq_true', decide_eq_false_iff_not] at hn
  obtain ⟨⟨h1, h2⟩, h3, h4, h5⟩ := hn
  have e : (sg s0 (val da)).natAbs = val da := by cases s0 <;> simp [sg]
  have hg : Nat.gcd (sg s0 (val da)).natAbs (val db) = 1 := by rw [e]; exact h5
  have e1 : (rq s0 da db).num = sg s0 (val da) := by unfold rq; rw [mk_num h4, hg]; simp
  have e2 : (rq s0 da db).den = val db := by unfold rq; rw [mk_den h4, hg]; simp
  have d1 := digs_val r0.okD h1
  have d2 := digs_val r1.okD h3
  refine ⟨⟨⟨?_, ?_⟩, ?_⟩, ?_, ?_⟩
  · show Raw w _ (digs (rq s0 da db).num.natAbs)
    rw [e1, e, d1]; exact r0
  · rw [e1, e, ← digs_length_le_iff, d1]; exact l0
  · rw [e1]
    cases s0
    · rw [sg_false]; simp
    · rw [sg_true]
      have hd : da ≠ [] := by rintro rfl; simp at h2
      have := val_pos_of_nrm h1 hd
      simp; omega
  · show Raw w _ (digs (rq s0 da db).den)
    rw [e2, d2]; exact r1
  · rw [e2, ← digs_length_le_iff, d2]; exact l1
/-- An end, or none. -/
def edO (no : Bool) (q : Rat) : Option Rat := if no then none else some q
theorem raw_end {da db : List Nat} (r0 : Raw w (.slice A0 n0 c0) da) (r1 : Raw w (.slice D0 m0 e0) db) (l0 : da.length ≤ L) (l1 : db.length ≤ L) (h : endB f0 s0 da db = true) : EndV w L s0 (.slice A0 n0 c0) (.slice D0 m0 e0) f0 (edO f0 (rq s0 da db)) := by
  cases f0
  · exact .inl ⟨rfl, _, rfl, raw_nq r0 r1 l0 l1 h⟩
  · have h : zb s0 da.length db.length = true := h
    simp only [zb, Bool.and_eq_true, Bool.not_eq_true', decide_eq_true_eq] at h
    obtain ⟨h1, h2, h3⟩ := h
    rw [List.length_eq_zero_iff] at h2 h3
    subst h2 h3
    exact .inr ⟨rfl, rfl, h1, r0, r1⟩
/-- A span as it came in is valid. -/
def rwOk (s : Bool) (a b : List Nat) (t : Bool) (c d : List Nat) (f h : Bool) : Bool := endB f s a b && (endB h t c d && (f || (h || decide (rq s a b < rq t c d))))
set_option maxRecDepth 100000 in
set_option maxHeartbeats 4000000 in
theorem zero_r :
    Calls Tryz.prog 45 #[.agg #[.bool s0, .slice A0 n0 c0, .slice D0 m0 e0]] w fun e w' => e = .returned (.bool (zb s0 n0 m0)) ∧ Below w.heap.size w w' := by
  cases s0 with
  | true =>
    go_enter Tryz.func45, Tryz.ntmps45
    go_wp2_with fail
    obtain ⟨W0, hW, b0, hbW, hszW0⟩ := boxes1 w #[.bool true, .slice A0 n0 c0, .slice D0 m0 e0] 28
    rw [hW]
    clear hW
    have H0 := hbW
    clear hbW
    have cb00 := b0.cell 0 _ rfl
    have cb01 := b0.cell 1 _ rfl
    have cb02 := b0.cell 2 _ rfl
    go_wp2_with fail
    go_returns
    exact ⟨by simp [zb], H0⟩
  | false =>
    by_cases h9 : n0 = 0
    · subst h9
      by_cases h9 : m0 = 0
      · subst h9
        go_enter Tryz.func45, Tryz.ntmps45
        go_wp2_with fail
        obtain ⟨W0, hW, b0, hbW, hszW0⟩ := boxes1 w #[.bool false, .slice A0 0 c0, .slice D0 0 e0] 28
        rw [hW]
        clear hW
        have H0 := hbW
        clear hbW
        have cb00 := b0.cell 0 _ rfl
        have cb01 := b0.cell 1 _ rfl
        have cb02 := b0.cell 2 _ rfl
        go_wp2_with fail
        go_returns
        exact ⟨by simp [zb], H0⟩
      · skip
        have kk : (((m0 : Nat) : Int) == 0) = false := by rw [beq_eq_false_iff_ne]; omega
        go_enter Tryz.func45, Tryz.ntmps45
        go_wp2_with fail
        obtain ⟨W0, hW, b0, hbW, hszW0⟩ := boxes1 w #[.bool false, .slice A0 0 c0, .slice D0 m0 e0] 28
        rw [hW]
        clear hW
        have H0 := hbW
        clear hbW
        have cb00 := b0.cell 0 _ rfl
        have cb01 := b0.cell 1 _ rfl
        have cb02 := b0.cell 2 _ rfl
        go_wp2_with fail
        go_returns
        exact ⟨by simp [zb, h9], H0⟩
    · skip
      have kk : (((n0 : Nat) : Int) == 0) = false := by rw [beq_eq_false_iff_ne]; omega
      go_enter Tryz.func45, Tryz.ntmps45
      go_wp2_with fail
      obtain ⟨W0, hW, b0, hbW, hszW0⟩ := boxes1 w #[.bool false, .slice A0 n0 c0, .slice D0 m0 e0] 28
      rw [hW]
      clear hW
      have H0 := hbW
      clear hbW
      have cb00 := b0.cell 0 _ rfl
      have cb01 := b0.cell 1 _ rfl
      have cb02 := b0.cell 2 _ rfl
      go_wp2_with fail
      go_returns
      exact ⟨by simp [zb, h9], H0⟩
set_option maxRecDepth 100000 in
set_option maxHeartbeats 4000000 in
theorem vend_r {da db : List Nat} {kb : Bool} (r0 : Raw w (.slice A0 n0 c0) da) (r1 : Raw w (.slice D0 m0 e0) db) (l0 : da.length ≤ 4) (l1 : db.length ≤ 4) (hk : endB f0 s0 da db = kb) :
    Calls Tryz.prog 47 #[.agg #[.bool s0, .slice A0 n0 c0, .slice D0 m0 e0], .bool f0] w fun e w' => e = .returned (.bool kb) ∧ Below w.heap.size w w' := by
  cases f0 with
  | true =>
    have q1_ := raw_len r0
    have q2_ := raw_len r1
    have hk : zb s0 n0 m0 = kb := by rw [← hk, q1_, q2_]; rfl
    clear q1_ q2_ r0 r1 l0 l1
    subst hk
    cases s0 with
    | true =>
      go_enter Tryz.func47, Tryz.ntmps47
      go_wp2_with fail
      obtain ⟨W0, hW, b0, hbW, hszW0⟩ := boxes1 w #[.bool true, .slice A0 n0 c0, .slice D0 m0 e0] 28
      rw [hW]
      clear hW
      have H0 := hbW
      clear hbW
      have cb00 := b0.cell 0 _ rfl
      have cb01 := b0.cell 1 _ rfl
      have cb02 := b0.cell 2 _ rfl
      go_wp2_with fail
      go_returns
      exact ⟨by simp [zb], H0⟩
    | false =>
      by_cases h9 : n0 = 0
      · subst h9
        by_cases h9 : m0 = 0
        · subst h9
          go_enter Tryz.func47, Tryz.ntmps47
          go_wp2_with fail
          obtain ⟨W0, hW, b0, hbW, hszW0⟩ := boxes1 w #[.bool false, .slice A0 0 c0, .slice D0 0 e0] 28
          rw [hW]
          clear hW
          have H0 := hbW
          clear hbW
          have cb00 := b0.cell 0 _ rfl
          have cb01 := b0.cell 1 _ rfl
          have cb02 := b0.cell 2 _ rfl
          go_wp2_with fail
          go_returns
          exact ⟨by simp [zb], H0⟩
        · skip
          have kk : (((m0 : Nat) : Int) == 0) = false := by rw [beq_eq_false_iff_ne]; omega
          go_enter Tryz.func47, Tryz.ntmps47
          go_wp2_with fail
          obtain ⟨W0, hW, b0, hbW, hszW0⟩ := boxes1 w #[.bool false, .slice A0 0 c0, .slice D0 m0 e0] 28
          rw [hW]
          clear hW
          have H0 := hbW
          clear hbW
          have cb00 := b0.cell 0 _ rfl
          have cb01 := b0.cell 1 _ rfl
          have cb02 := b0.cell 2 _ rfl
          go_wp2_with fail
          go_returns
          exact ⟨by simp [zb, h9], H0⟩
      · skip
        have kk : (((n0 : Nat) : Int) == 0) = false := by rw [beq_eq_false_iff_ne]; omega
        go_enter Tryz.func47, Tryz.ntmps47
        go_wp2_with fail
        obtain ⟨W0, hW, b0, hbW, hszW0⟩ := boxes1 w #[.bool false, .slice A0 n0 c0, .slice D0 m0 e0] 28
        rw [hW]
        clear hW
        have H0 := hbW
        clear hbW
        have cb00 := b0.cell 0 _ rfl
        have cb01 := b0.cell 1 _ rfl
        have cb02 := b0.cell 2 _ rfl
        go_wp2_with fail
        go_returns
        exact ⟨by simp [zb, h9], H0⟩
  | false =>
    have HK := Lib.hid hk
    clear hk
    go_enter Tryz.func47, Tryz.ntmps47
    go_wp2_with fail
    obtain ⟨W0, hW, b0, hbW, hszW0⟩ := boxes1 w #[.bool s0, .slice A0 n0 c0, .slice D0 m0 e0] 28
    rw [hW]
    clear hW
    replace r0 := r0.below hbW
    replace r1 := r1.below hbW
    have H0 := hbW
    clear hbW
    have cb00 := b0.cell 0 _ rfl
    have cb01 := b0.cell 1 _ rfl
    have cb02 := b0.cell 2 _ rfl
    go_wp2_with fail
    clear cb00 cb01 cb02
    refine (rnormal_r r0 r1 (by omega) (by omega)).mono ?_
    rintro e w1 ⟨rfl, hb⟩
    replace r0 := r0.below hb
    replace r1 := r1.below hb
    replace b0 := b0.below hb
    replace H0 := H0.trans (hb.mono H0.size)
    clear hb
    go_wp2_with fail
    go_returns
    exact ⟨by rw [← HK.out]; rfl, H0⟩
set_option maxRecDepth 100000 in
set_option maxHeartbeats 4000000 in
theorem vspan_r {da db dc de : List Nat} (r0 : Raw w (.slice A0 n0 c0) da) (r1 : Raw w (.slice D0 m0 e0) db) (r2 : Raw w (.slice A1 n1 c1) dc) (r3 : Raw w (.slice D1 m1 e1) de) (l0 : da.length ≤ 4) (l1 : db.length ≤ 4) (l2 : dc.length ≤ 4) (l3 : de.length ≤ 4) :
    Calls Tryz.prog 12 #[.agg #[.bool s0, .slice A0 n0 c0, .slice D0 m0 e0, .bool s1, .slice A1 n1 c1, .slice D1 m1 e1, .bool f0, .bool h0]] w fun e w' => e = .returned (.bool (rwOk s0 da db s1 dc de f0 h0)) ∧ Below w.heap.size w w' := by
  obtain ⟨b0, h8⟩ : ∃ k, endB f0 s0 da db = k := ⟨_, rfl⟩
  obtain ⟨b1, h9⟩ : ∃ k, endB h0 s1 dc de = k := ⟨_, rfl⟩
  have HK : Hid (rwOk s0 da db s1 dc de f0 h0 = (b0 && (b1 && (f0 || (h0 || decide (rq s0 da db < rq s1 dc de)))))) := Lib.hid (by unfold rwOk; rw [h8, h9])
  have X0 := Lib.hid h8
  have X1 := Lib.hid h9
  clear h8 h9
  cases b0
  · go_enter Tryz.func12, Tryz.ntmps12
    go_wp2_with fail
    obtain ⟨W0, hW, b0, hbW, hszW0⟩ := boxes1 w #[.bool s0, .slice A0 n0 c0, .slice D0 m0 e0, .bool s1, .slice A1 n1 c1, .slice D1 m1 e1, .bool f0, .bool h0] 32
    rw [hW]
    clear hW
    replace r0 := r0.below hbW
    replace r1 := r1.below hbW
    replace r2 := r2.below hbW
    replace r3 := r3.below hbW
    have H0 := hbW
    clear hbW
    have cb00 := b0.cell 0 _ rfl
    have cb01 := b0.cell 1 _ rfl
    have cb02 := b0.cell 2 _ rfl
    have cb03 := b0.cell 3 _ rfl
    have cb04 := b0.cell 4 _ rfl
    have cb05 := b0.cell 5 _ rfl
    have cb06 := b0.cell 6 _ rfl
    have cb07 := b0.cell 7 _ rfl
    go_wp2_with fail
    clear cb00 cb01 cb02 cb03 cb04 cb05 cb06 cb07
    refine (vend_r r0 r1 l0 l1 X0.out).mono ?_
    rintro e w1 ⟨rfl, hb⟩
    replace r0 := r0.below hb
    replace r1 := r1.below hb
    replace r2 := r2.below hb
    replace r3 := r3.below hb
    replace b0 := b0.below hb
    replace H0 := H0.trans (hb.mono H0.size)
    clear hb
    have cb00 := b0.cell 0 _ rfl
    have cb01 := b0.cell 1 _ rfl
    have cb02 := b0.cell 2 _ rfl
    have cb03 := b0.cell 3 _ rfl
    have cb04 := b0.cell 4 _ rfl
    have cb05 := b0.cell 5 _ rfl
    have cb06 := b0.cell 6 _ rfl
    have cb07 := b0.cell 7 _ rfl
    go_wp2_with fail
    clear cb00 cb01 cb02 cb03 cb04 cb05 cb06 cb07
    go_returns
    exact ⟨by rw [HK.out]; rfl, H0⟩
  · cases b1
    · go_enter Tryz.func12, Tryz.ntmps12
      go_wp2_with fail
      obtain ⟨W0, hW, b0, hbW, hszW0⟩ := boxes1 w #[.bool s0, .slice A0 n0 c0, .slice D0 m0 e0, .bool s1, .slice A1 n1 c1, .slice D1 m1 e1, .bool f0, .bool h0] 32
      rw [hW]
      clear hW
      replace r0 := r0.below hbW
      replace r1 := r1.below hbW
      replace r2 := r2.below hbW
      replace r3 := r3.below hbW
      have H0 := hbW
      clear hbW
      have cb00 := b0.cell 0 _ rfl
      have cb01 := b0.cell 1 _ rfl
      have cb02 := b0.cell 2 _ rfl
      have cb03 := b0.cell 3 _ rfl
      have cb04 := b0.cell 4 _ rfl
      have cb05 := b0.cell 5 _ rfl
      have cb06 := b0.cell 6 _ rfl
      have cb07 := b0.cell 7 _ rfl
      go_wp2_with fail
      clear cb00 cb01 cb02 cb03 cb04 cb05 cb06 cb07
      refine (vend_r r0 r1 l0 l1 X0.out).mono ?_
      rintro e w1 ⟨rfl, hb⟩
      replace r0 := r0.below hb
      replace r1 := r1.below hb
      replace r2 := r2.below hb
      replace r3 := r3.below hb
      replace b0 := b0.below hb
      replace H0 := H0.trans (hb.mono H0.size)
      clear hb
      have cb00 := b0.cell 0 _ rfl
      have cb01 := b0.cell 1 _ rfl
      have cb02 := b0.cell 2 _ rfl
      have cb03 := b0.cell 3 _ rfl
      have cb04 := b0.cell 4 _ rfl
      have cb05 := b0.cell 5 _ rfl
      have cb06 := b0.cell 6 _ rfl
      have cb07 := b0.cell 7 _ rfl
      go_wp2_with fail
      clear cb00 cb01 cb02 cb03 cb04 cb05 cb06 cb07
      refine (vend_r r2 r3 l2 l3 X1.out).mono ?_
      rintro e w2 ⟨rfl, hb⟩
      replace r0 := r0.below hb
      replace r1 := r1.below hb
      replace r2 := r2.below hb
      replace r3 := r3.below hb
      replace b0 := b0.below hb
      replace H0 := H0.trans (hb.mono H0.size)
      clear hb
      have cb00 := b0.cell 0 _ rfl
      have cb01 := b0.cell 1 _ rfl
      have cb02 := b0.cell 2 _ rfl
      have cb03 := b0.cell 3 _ rfl
      have cb04 := b0.cell 4 _ rfl
      have cb05 := b0.cell 5 _ rfl
      have cb06 := b0.cell 6 _ rfl
      have cb07 := b0.cell 7 _ rfl
      go_wp2_with fail
      clear cb00 cb01 cb02 cb03 cb04 cb05 cb06 cb07
      go_returns
      exact ⟨by rw [HK.out]; rfl, H0⟩
    · cases f0
      · cases h0
        · rcases rsg_tri (rq s0 da db) (rq s1 dc de) with ⟨hs, hd⟩ | ⟨hs, hd⟩ | ⟨hs, hd⟩
          · have HD := Lib.hid (show decide (rq s0 da db < rq s1 dc de) = true from decide_eq_true hd)
            have HS := Lib.hid hs
            clear hs hd
            go_enter Tryz.func12, Tryz.ntmps12
            go_wp2_with fail
            obtain ⟨W0, hW, b0, hbW, hszW0⟩ := boxes1 w #[.bool s0, .slice A0 n0 c0, .slice D0 m0 e0, .bool s1, .slice A1 n1 c1, .slice D1 m1 e1, .bool false, .bool false] 32
            rw [hW]
            clear hW
            replace r0 := r0.below hbW
            replace r1 := r1.below hbW
            replace r2 := r2.below hbW
            replace r3 := r3.below hbW
            have H0 := hbW
            clear hbW
            have cb00 := b0.cell 0 _ rfl
            have cb01 := b0.cell 1 _ rfl
            have cb02 := b0.cell 2 _ rfl
            have cb03 := b0.cell 3 _ rfl
            have cb04 := b0.cell 4 _ rfl
            have cb05 := b0.cell 5 _ rfl
            have cb06 := b0.cell 6 _ rfl
            have cb07 := b0.cell 7 _ rfl
            go_wp2_with fail
            clear cb00 cb01 cb02 cb03 cb04 cb05 cb06 cb07
            refine (vend_r r0 r1 l0 l1 X0.out).mono ?_
            rintro e w1 ⟨rfl, hb⟩
            replace r0 := r0.below hb
            replace r1 := r1.below hb
            replace r2 := r2.below hb
            replace r3 := r3.below hb
            replace b0 := b0.below hb
            replace H0 := H0.trans (hb.mono H0.size)
            clear hb
            have cb00 := b0.cell 0 _ rfl
            have cb01 := b0.cell 1 _ rfl
            have cb02 := b0.cell 2 _ rfl
            have cb03 := b0.cell 3 _ rfl
            have cb04 := b0.cell 4 _ rfl
            have cb05 := b0.cell 5 _ rfl
            have cb06 := b0.cell 6 _ rfl
            have cb07 := b0.cell 7 _ rfl
            go_wp2_with fail
            clear cb00 cb01 cb02 cb03 cb04 cb05 cb06 cb07
            refine (vend_r r2 r3 l2 l3 X1.out).mono ?_
            rintro e w2 ⟨rfl, hb⟩
            replace r0 := r0.below hb
            replace r1 := r1.below hb
            replace r2 := r2.below hb
            replace r3 := r3.below hb
            replace b0 := b0.below hb
            replace H0 := H0.trans (hb.mono H0.size)
            clear hb
            have cb00 := b0.cell 0 _ rfl
            have cb01 := b0.cell 1 _ rfl
            have cb02 := b0.cell 2 _ rfl
            have cb03 := b0.cell 3 _ rfl
            have cb04 := b0.cell 4 _ rfl
            have cb05 := b0.cell 5 _ rfl
            have cb06 := b0.cell 6 _ rfl
            have cb07 := b0.cell 7 _ rfl
            go_wp2_with fail
            clear cb00 cb01 cb02 cb03 cb04 cb05 cb06 cb07
            refine (rcmp_v (raw_rq (L := 4) r0 r1 l0 l1) (raw_rq (L := 4) r2 r3 l2 l3) (by decide) (by decide) HS.out).mono ?_
            rintro e w3 ⟨rfl, hb⟩
            replace r0 := r0.below hb
            replace r1 := r1.below hb
            replace r2 := r2.below hb
            replace r3 := r3.below hb
            replace b0 := b0.below hb
            replace H0 := H0.trans (hb.mono H0.size)
            clear hb
            go_wp2_with fail
            go_returns
            exact ⟨by rw [HK.out, HD.out]; rfl, H0⟩
          · have HD := Lib.hid (show decide (rq s0 da db < rq s1 dc de) = false from decide_eq_false (by grind))
            have HS := Lib.hid hs
            clear hs hd
            go_enter Tryz.func12, Tryz.ntmps12
            go_wp2_with fail
            obtain ⟨W0, hW, b0, hbW, hszW0⟩ := boxes1 w #[.bool s0, .slice A0 n0 c0, .slice D0 m0 e0, .bool s1, .slice A1 n1 c1, .slice D1 m1 e1, .bool false, .bool false] 32
            rw [hW]
            clear hW
            replace r0 := r0.below hbW
            replace r1 := r1.below hbW
            replace r2 := r2.below hbW
            replace r3 := r3.below hbW
            have H0 := hbW
            clear hbW
            have cb00 := b0.cell 0 _ rfl
            have cb01 := b0.cell 1 _ rfl
            have cb02 := b0.cell 2 _ rfl
            have cb03 := b0.cell 3 _ rfl
            have cb04 := b0.cell 4 _ rfl
            have cb05 := b0.cell 5 _ rfl
            have cb06 := b0.cell 6 _ rfl
            have cb07 := b0.cell 7 _ rfl
            go_wp2_with fail
            clear cb00 cb01 cb02 cb03 cb04 cb05 cb06 cb07
            refine (vend_r r0 r1 l0 l1 X0.out).mono ?_
            rintro e w1 ⟨rfl, hb⟩
            replace r0 := r0.below hb
            replace r1 := r1.below hb
            replace r2 := r2.below hb
            replace r3 := r3.below hb
            replace b0 := b0.below hb
            replace H0 := H0.trans (hb.mono H0.size)
            clear hb
            have cb00 := b0.cell 0 _ rfl
            have cb01 := b0.cell 1 _ rfl
            have cb02 := b0.cell 2 _ rfl
            have cb03 := b0.cell 3 _ rfl
            have cb04 := b0.cell 4 _ rfl
            have cb05 := b0.cell 5 _ rfl
            have cb06 := b0.cell 6 _ rfl
            have cb07 := b0.cell 7 _ rfl
            go_wp2_with fail
            clear cb00 cb01 cb02 cb03 cb04 cb05 cb06 cb07
            refine (vend_r r2 r3 l2 l3 X1.out).mono ?_
            rintro e w2 ⟨rfl, hb⟩
            replace r0 := r0.below hb
            replace r1 := r1.below hb
            replace r2 := r2.below hb
            replace r3 := r3.below hb
            replace b0 := b0.below hb
            replace H0 := H0.trans (hb.mono H0.size)
            clear hb
            have cb00 := b0.cell 0 _ rfl
            have cb01 := b0.cell 1 _ rfl
            have cb02 := b0.cell 2 _ rfl
            have cb03 := b0.cell 3 _ rfl
            have cb04 := b0.cell 4 _ rfl
            have cb05 := b0.cell 5 _ rfl
            have cb06 := b0.cell 6 _ rfl
            have cb07 := b0.cell 7 _ rfl
            go_wp2_with fail
            clear cb00 cb01 cb02 cb03 cb04 cb05 cb06 cb07
            refine (rcmp_v (raw_rq (L := 4) r0 r1 l0 l1) (raw_rq (L := 4) r2 r3 l2 l3) (by decide) (by decide) HS.out).mono ?_
            rintro e w3 ⟨rfl, hb⟩
            replace r0 := r0.below hb
            replace r1 := r1.below hb
            replace r2 := r2.below hb
            replace r3 := r3.below hb
            replace b0 := b0.below hb
            replace H0 := H0.trans (hb.mono H0.size)
            clear hb
            go_wp2_with fail
            go_returns
            exact ⟨by rw [HK.out, HD.out]; rfl, H0⟩
          · have HD := Lib.hid (show decide (rq s0 da db < rq s1 dc de) = false from decide_eq_false (by grind))
            have HS := Lib.hid hs
            clear hs hd
            go_enter Tryz.func12, Tryz.ntmps12
            go_wp2_with fail
            obtain ⟨W0, hW, b0, hbW, hszW0⟩ := boxes1 w #[.bool s0, .slice A0 n0 c0, .slice D0 m0 e0, .bool s1, .slice A1 n1 c1, .slice D1 m1 e1, .bool false, .bool false] 32
            rw [hW]
            clear hW
            replace r0 := r0.below hbW
            replace r1 := r1.below hbW
            replace r2 := r2.below hbW
            replace r3 := r3.below hbW
            have H0 := hbW
            clear hbW
            have cb00 := b0.cell 0 _ rfl
            have cb01 := b0.cell 1 _ rfl
            have cb02 := b0.cell 2 _ rfl
            have cb03 := b0.cell 3 _ rfl
            have cb04 := b0.cell 4 _ rfl
            have cb05 := b0.cell 5 _ rfl
            have cb06 := b0.cell 6 _ rfl
            have cb07 := b0.cell 7 _ rfl
            go_wp2_with fail
            clear cb00 cb01 cb02 cb03 cb04 cb05 cb06 cb07
            refine (vend_r r0 r1 l0 l1 X0.out).mono ?_
            rintro e w1 ⟨rfl, hb⟩
            replace r0 := r0.below hb
            replace r1 := r1.below hb
            replace r2 := r2.below hb
            replace r3 := r3.below hb
            replace b0 := b0.below hb
            replace H0 := H0.trans (hb.mono H0.size)
            clear hb
            have cb00 := b0.cell 0 _ rfl
            have cb01 := b0.cell 1 _ rfl
            have cb02 := b0.cell 2 _ rfl
            have cb03 := b0.cell 3 _ rfl
            have cb04 := b0.cell 4 _ rfl
            have cb05 := b0.cell 5 _ rfl
            have cb06 := b0.cell 6 _ rfl
            have cb07 := b0.cell 7 _ rfl
            go_wp2_with fail
            clear cb00 cb01 cb02 cb03 cb04 cb05 cb06 cb07
            refine (vend_r r2 r3 l2 l3 X1.out).mono ?_
            rintro e w2 ⟨rfl, hb⟩
            replace r0 := r0.below hb
            replace r1 := r1.below hb
            replace r2 := r2.below hb
            replace r3 := r3.below hb
            replace b0 := b0.below hb
            replace H0 := H0.trans (hb.mono H0.size)
            clear hb
            have cb00 := b0.cell 0 _ rfl
            have cb01 := b0.cell 1 _ rfl
            have cb02 := b0.cell 2 _ rfl
            have cb03 := b0.cell 3 _ rfl
            have cb04 := b0.cell 4 _ rfl
            have cb05 := b0.cell 5 _ rfl
            have cb06 := b0.cell 6 _ rfl
            have cb07 := b0.cell 7 _ rfl
            go_wp2_with fail
            clear cb00 cb01 cb02 cb03 cb04 cb05 cb06 cb07
            refine (rcmp_v (raw_rq (L := 4) r0 r1 l0 l1) (raw_rq (L := 4) r2 r3 l2 l3) (by decide) (by decide) HS.out).mono ?_
            rintro e w3 ⟨rfl, hb⟩
            replace r0 := r0.below hb
            replace r1 := r1.below hb
            replace r2 := r2.below hb
            replace r3 := r3.below hb
            replace b0 := b0.below hb
            replace H0 := H0.trans (hb.mono H0.size)
            clear hb
            go_wp2_with fail
            go_returns
            exact ⟨by rw [HK.out, HD.out]; rfl, H0⟩
        · go_enter Tryz.func12, Tryz.ntmps12
          go_wp2_with fail
          obtain ⟨W0, hW, b0, hbW, hszW0⟩ := boxes1 w #[.bool s0, .slice A0 n0 c0, .slice D0 m0 e0, .bool s1, .slice A1 n1 c1, .slice D1 m1 e1, .bool false, .bool true] 32
          rw [hW]
          clear hW
          replace r0 := r0.below hbW
          replace r1 := r1.below hbW
          replace r2 := r2.below hbW
          replace r3 := r3.below hbW
          have H0 := hbW
          clear hbW
          have cb00 := b0.cell 0 _ rfl
          have cb01 := b0.cell 1 _ rfl
          have cb02 := b0.cell 2 _ rfl
          have cb03 := b0.cell 3 _ rfl
          have cb04 := b0.cell 4 _ rfl
          have cb05 := b0.cell 5 _ rfl
          have cb06 := b0.cell 6 _ rfl
          have cb07 := b0.cell 7 _ rfl
          go_wp2_with fail
          clear cb00 cb01 cb02 cb03 cb04 cb05 cb06 cb07
          refine (vend_r r0 r1 l0 l1 X0.out).mono ?_
          rintro e w1 ⟨rfl, hb⟩
          replace r0 := r0.below hb
          replace r1 := r1.below hb
          replace r2 := r2.below hb
          replace r3 := r3.below hb
          replace b0 := b0.below hb
          replace H0 := H0.trans (hb.mono H0.size)
          clear hb
          have cb00 := b0.cell 0 _ rfl
          have cb01 := b0.cell 1 _ rfl
          have cb02 := b0.cell 2 _ rfl
          have cb03 := b0.cell 3 _ rfl
          have cb04 := b0.cell 4 _ rfl
          have cb05 := b0.cell 5 _ rfl
          have cb06 := b0.cell 6 _ rfl
          have cb07 := b0.cell 7 _ rfl
          go_wp2_with fail
          clear cb00 cb01 cb02 cb03 cb04 cb05 cb06 cb07
          refine (vend_r r2 r3 l2 l3 X1.out).mono ?_
          rintro e w2 ⟨rfl, hb⟩
          replace r0 := r0.below hb
          replace r1 := r1.below hb
          replace r2 := r2.below hb
          replace r3 := r3.below hb
          replace b0 := b0.below hb
          replace H0 := H0.trans (hb.mono H0.size)
          clear hb
          have cb00 := b0.cell 0 _ rfl
          have cb01 := b0.cell 1 _ rfl
          have cb02 := b0.cell 2 _ rfl
          have cb03 := b0.cell 3 _ rfl
          have cb04 := b0.cell 4 _ rfl
          have cb05 := b0.cell 5 _ rfl
          have cb06 := b0.cell 6 _ rfl
          have cb07 := b0.cell 7 _ rfl
          go_wp2_with fail
          clear cb00 cb01 cb02 cb03 cb04 cb05 cb06 cb07
          go_returns
          exact ⟨by rw [HK.out]; rfl, H0⟩
      · go_enter Tryz.func12, Tryz.ntmps12
        go_wp2_with fail
        obtain ⟨W0, hW, b0, hbW, hszW0⟩ := boxes1 w #[.bool s0, .slice A0 n0 c0, .slice D0 m0 e0, .bool s1, .slice A1 n1 c1, .slice D1 m1 e1, .bool true, .bool h0] 32
        rw [hW]
        clear hW
        replace r0 := r0.below hbW
        replace r1 := r1.below hbW
        replace r2 := r2.below hbW
        replace r3 := r3.below hbW
        have H0 := hbW
        clear hbW
        have cb00 := b0.cell 0 _ rfl
        have cb01 := b0.cell 1 _ rfl
        have cb02 := b0.cell 2 _ rfl
        have cb03 := b0.cell 3 _ rfl
        have cb04 := b0.cell 4 _ rfl
        have cb05 := b0.cell 5 _ rfl
        have cb06 := b0.cell 6 _ rfl
        have cb07 := b0.cell 7 _ rfl
        go_wp2_with fail
        clear cb00 cb01 cb02 cb03 cb04 cb05 cb06 cb07
        refine (vend_r r0 r1 l0 l1 X0.out).mono ?_
        rintro e w1 ⟨rfl, hb⟩
        replace r0 := r0.below hb
        replace r1 := r1.below hb
        replace r2 := r2.below hb
        replace r3 := r3.below hb
        replace b0 := b0.below hb
        replace H0 := H0.trans (hb.mono H0.size)
        clear hb
        have cb00 := b0.cell 0 _ rfl
        have cb01 := b0.cell 1 _ rfl
        have cb02 := b0.cell 2 _ rfl
        have cb03 := b0.cell 3 _ rfl
        have cb04 := b0.cell 4 _ rfl
        have cb05 := b0.cell 5 _ rfl
        have cb06 := b0.cell 6 _ rfl
        have cb07 := b0.cell 7 _ rfl
        go_wp2_with fail
        clear cb00 cb01 cb02 cb03 cb04 cb05 cb06 cb07
        refine (vend_r r2 r3 l2 l3 X1.out).mono ?_
        rintro e w2 ⟨rfl, hb⟩
        replace r0 := r0.below hb
        replace r1 := r1.below hb
        replace r2 := r2.below hb
        replace r3 := r3.below hb
        replace b0 := b0.below hb
        replace H0 := H0.trans (hb.mono H0.size)
        clear hb
        have cb00 := b0.cell 0 _ rfl
        have cb01 := b0.cell 1 _ rfl
        have cb02 := b0.cell 2 _ rfl
        have cb03 := b0.cell 3 _ rfl
        have cb04 := b0.cell 4 _ rfl
        have cb05 := b0.cell 5 _ rfl
        have cb06 := b0.cell 6 _ rfl
        have cb07 := b0.cell 7 _ rfl
        go_wp2_with fail
        clear cb00 cb01 cb02 cb03 cb04 cb05 cb06 cb07
        go_returns
        exact ⟨by rw [HK.out]; rfl, H0⟩
end
end Go.Proofs.YtpgkkkodniiilaaGreatDoor
