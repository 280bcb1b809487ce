/-
  The reference's Read of any span.
-/
import Derived.Test.YtpgkkkodniiilaaGreatDoorWVa
import Derived.Test.YtpgkkkodniiilaaGreatDoorWSpV
import Derived.IntWalk
import Derived.Deep.Cut
namespace Go.Proofs.YtpgkkkodniiilaaGreatDoor
open Go.RowKit

section
variable {f0 h0 f1 h1 f2 h2 f3 h3 f4 h4 f5 h5 f6 h6 f7 h7 f8 h8 f9 h9 f10 h10 f11 h11 : Bool} {A0 A1 A2 A3 A4 A5 A6 A7 A8 A9 A10 A11 A12 A13 A14 A15 A16 A17 A18 A19 A20 A21 A22 A23 D0 D1 D2 D3 D4 D5 D6 D7 D8 D9 D10 D11 D12 D13 D14 D15 D16 D17 D18 D19 D20 D21 D22 D23 : Option Addr} {n0 n1 n2 n3 n4 n5 n6 n7 n8 n9 n10 n11 n12 n13 n14 n15 n16 n17 n18 n19 n20 n21 n22 n23 c0 c1 c2 c3 c4 c5 c6 c7 c8 c9 c10 c11 c12 c13 c14 c15 c16 c17 c18 c19 c20 c21 c22 c23 m0 m1 m2 m3 m4 m5 m6 m7 m8 m9 m10 m11 m12 m13 m14 m15 m16 m17 m18 m19 m20 m21 m22 m23 e0 e1 e2 e3 e4 e5 e6 e7 e8 e9 e10 e11 e12 e13 e14 e15 e16 e17 e18 e19 e20 e21 e22 e23 : Nat} {s0 s1 s2 s3 s4 s5 s6 s7 s8 s9 s10 s11 s12 s13 s14 s15 s16 s17 s18 s19 s20 s21 s22 s23 : Bool} {q0 q1 q2 q3 q4 q5 q6 q7 : Rat} {z0 z1 z2 z3 z4 z5 z6 z7 z8 z9 z10 z11 : Int} {L L0 L1 x y : Nat} {k : Int} {b : Bool} {w : World}
variable {o0 o1 o2 o3 : Option Rat} {l l' : List Sp}
/-- What Read returns. -/
def ReadQ (w : World) (e : Ending) (ok : Bool) (o0 o1 : Option Rat) : Prop := ∃ (s2 : Bool), ∃ (A2 : Option Addr), ∃ (n2 : Nat), ∃ (c2 : Nat), ∃ (D2 : Option Addr), ∃ (m2 : Nat), ∃ (e2 : Nat), ∃ (s3 : Bool), ∃ (A3 : Option Addr), ∃ (n3 : Nat), ∃ (c3 : Nat), ∃ (D3 : Option Addr), ∃ (m3 : Nat), ∃ (e3 : Nat), ∃ (f1 : Bool), ∃ (h1 : Bool), e = .returned (.tuple #[.agg #[.bool s2, .slice A2 n2 c2, .slice D2 m2 e2, .bool s3, .slice A3 n3 c3, .slice D3 m3 e3, .bool f1, .bool h1], .bool ok]) ∧ (ok = true → EndP w 4 s2 (.slice A2 n2 c2) (.slice D2 m2 e2) f1 o0 ∧ EndP w 4 s3 (.slice A3 n3 c3) (.slice D3 m3 e3) h1 o1)
theorem info_s6v : (Tryz.prog.info? 39).map (·.size) = some 8 := by kernel_rfl
theorem ret_s6b {fn : Func} {p q : Tmp} (h : fn.results = #[.cell p 39, .tmp q]) {tmps : Array Value} {w : World} {g : Nat} {a0 a1 a2 a3 a4 a5 a6 a7 : Value} {t : TypeId} (hp : tmps.getD p undef = .pointer (some ⟨g, 0, none⟩)) (hb : Box w g #[a0, a1, a2, a3, a4, a5, a6, a7] t) :
    (results fn tmps).run Tryz.prog w = .ok (.tuple #[.agg #[a0, a1, a2, a3, a4, a5, a6, a7], tmps.getD q undef]) w := by
  have hp' : tmps[p]?.getD undef = .pointer (some ⟨g, 0, none⟩) := by simpa using hp
  have h1 := run_loadVar_row (P := Tryz.prog) w g t 39 #[a0, a1, a2, a3, a4, a5, a6, a7] (0, 0) _ hb Tryz.underlying39 rfl info_s6v
  simp [results, h, hp', asAddr, h1]
theorem zero_b {kb : Bool} (hk : zb s0 n0 m0 = kb) : Calls Tryz.prog 45 #[.agg #[.bool s0, .slice A0 n0 c0, .slice D0 m0 e0]] w fun e w' => e = .returned (.bool kb) ∧ Below w.heap.size w w' := by subst hk; exact zero_r
theorem normalq_b {da db : List Nat} {kb : Bool} (r0 : Raw w (.slice A0 n0 c0) da) (r1 : Raw w (.slice D0 m0 e0) db) (l0 : da.length ≤ 4) (l1 : db.length ≤ 4) (hk : normQB s0 da db = kb) : Calls Tryz.prog 46 #[.agg #[.bool s0, .slice A0 n0 c0, .slice D0 m0 e0]] w fun e w' => e = .returned (.bool kb) ∧ Below w.heap.size w w' := by subst hk; exact normalq_r r0 r1 (by omega) (by omega)
set_option maxRecDepth 100000 in
set_option maxHeartbeats 16000000 in
theorem read_r {da db dc de : List Nat} (r0 : Raw w (.slice A0 n0 c0) da) (r1 : Raw w (.slice D0 m0 e0) db) (r2 : Raw w (.slice A1 n1 c1) dc) (r3 : Raw w (.slice D1 m1 e1) de) (l0 : da.length ≤ 4) (l1 : db.length ≤ 4) (l2 : dc.length ≤ 4) (l3 : de.length ≤ 4) :
    Calls Tryz.prog 11 #[.agg #[.bool s0, .slice A0 n0 c0, .slice D0 m0 e0, .bool s1, .slice A1 n1 c1, .slice D1 m1 e1, .bool f0, .bool h0]] w fun e w' => ReadQ w' e (rwOk s0 da db s1 dc de f0 h0) (edO f0 (rq s0 da db)) (edO h0 (rq s1 dc de)) ∧ Below w.heap.size w w' := by
  obtain ⟨u0, h8⟩ : ∃ k, endB f0 s0 da db = k := ⟨_, rfl⟩
  obtain ⟨u1, h9⟩ : ∃ k, endB h0 s1 dc de = k := ⟨_, rfl⟩
  have HK : Hid (rwOk s0 da db s1 dc de f0 h0 = (u0 && (u1 && (f0 || (h0 || decide (rq s0 da db < rq s1 dc de)))))) := Lib.hid (by unfold rwOk; rw [h8, h9])
  have H8 := Lib.hid h8
  have H9 := Lib.hid h9
  clear h8 h9
  go_enter Tryz.func11, Tryz.ntmps11
  go_upto_region 1 with fail
  obtain ⟨W0, hW, b1, b2, hbW, hszW0⟩ := boxes2 w #[.bool s0, .slice A0 n0 c0, .slice D0 m0 e0, .bool s1, .slice A1 n1 c1, .slice D1 m1 e1, .bool f0, .bool h0] #[.bool false, .slice none 0 0, .slice none 0 0, .bool false, .slice none 0 0, .slice none 0 0, .bool false, .bool false] 32 39
  rw [hW]
  clear hW
  replace r0 := r0.below hbW
  replace r1 := r1.below hbW
  replace r2 := r2.below hbW
  replace r3 := r3.below hbW
  have H0 := hbW
  clear hbW
  go_cut [44] from 5 (fun s_44 wx => s_44 = .bool (!(u0 && u1)) ∧ Below W0.heap.size W0 wx)
  case first =>
    clear H0
    have q1_ := raw_len r0
    have q2_ := raw_len r1
    have q3_ := raw_len r2
    have q4_ := raw_len r3
    have h8 := H8.out
    have h9 := H9.out
    clear H8 H9 HK
    cases f0
    · have X0 := Lib.hid (show normQB s0 da db = u0 from h8)
      cases u0
      · have HV : Hid ((false && u1) = false) := Lib.hid rfl
        clear h8 h9 q1_ q2_ q3_ q4_
        have cb10 := b1.cell 0 _ rfl
        have cb11 := b1.cell 1 _ rfl
        have cb12 := b1.cell 2 _ rfl
        have cb13 := b1.cell 3 _ rfl
        have cb14 := b1.cell 4 _ rfl
        have cb15 := b1.cell 5 _ rfl
        have cb16 := b1.cell 6 _ rfl
        have cb17 := b1.cell 7 _ rfl
        go_wp2_with fail
        clear cb10 cb11 cb12 cb13 cb14 cb15 cb16 cb17
        refine (normalq_b r0 r1 l0 l1 X0.out).mono ?_
        rintro e w20 ⟨rfl, hb⟩
        replace r0 := r0.below hb
        replace r1 := r1.below hb
        replace r2 := r2.below hb
        replace r3 := r3.below hb
        replace b1 := b1.below hb
        replace b2 := b2.below hb
        have H0 := hb
        clear hb
        have cb10 := b1.cell 0 _ rfl
        have cb11 := b1.cell 1 _ rfl
        have cb12 := b1.cell 2 _ rfl
        have cb13 := b1.cell 3 _ rfl
        have cb14 := b1.cell 4 _ rfl
        have cb15 := b1.cell 5 _ rfl
        have cb16 := b1.cell 6 _ rfl
        have cb17 := b1.cell 7 _ rfl
        go_wp2_with fail
        clear cb10 cb11 cb12 cb13 cb14 cb15 cb16 cb17
        go_meet
        exact ⟨by rw [HV.out]; rfl, H0⟩
      · cases h0
        · have X1 := Lib.hid (show normQB s1 dc de = u1 from h9)
          clear h8 h9 q1_ q2_ q3_ q4_
          cases u1
          · have HV : Hid ((true && false) = false) := Lib.hid rfl
            have cb10 := b1.cell 0 _ rfl
            have cb11 := b1.cell 1 _ rfl
            have cb12 := b1.cell 2 _ rfl
            have cb13 := b1.cell 3 _ rfl
            have cb14 := b1.cell 4 _ rfl
            have cb15 := b1.cell 5 _ rfl
            have cb16 := b1.cell 6 _ rfl
            have cb17 := b1.cell 7 _ rfl
            go_wp2_with fail
            clear cb10 cb11 cb12 cb13 cb14 cb15 cb16 cb17
            refine (normalq_b r0 r1 l0 l1 X0.out).mono ?_
            rintro e w20 ⟨rfl, hb⟩
            replace r0 := r0.below hb
            replace r1 := r1.below hb
            replace r2 := r2.below hb
            replace r3 := r3.below hb
            replace b1 := b1.below hb
            replace b2 := b2.below hb
            have H0 := hb
            clear hb
            have cb10 := b1.cell 0 _ rfl
            have cb11 := b1.cell 1 _ rfl
            have cb12 := b1.cell 2 _ rfl
            have cb13 := b1.cell 3 _ rfl
            have cb14 := b1.cell 4 _ rfl
            have cb15 := b1.cell 5 _ rfl
            have cb16 := b1.cell 6 _ rfl
            have cb17 := b1.cell 7 _ rfl
            go_wp2_with fail
            clear cb10 cb11 cb12 cb13 cb14 cb15 cb16 cb17
            refine (normalq_b r2 r3 l2 l3 X1.out).mono ?_
            rintro e w21 ⟨rfl, hb⟩
            replace r0 := r0.below hb
            replace r1 := r1.below hb
            replace r2 := r2.below hb
            replace r3 := r3.below hb
            replace b1 := b1.below hb
            replace b2 := b2.below hb
            replace H0 := H0.trans (hb.mono H0.size)
            clear hb
            have cb10 := b1.cell 0 _ rfl
            have cb11 := b1.cell 1 _ rfl
            have cb12 := b1.cell 2 _ rfl
            have cb13 := b1.cell 3 _ rfl
            have cb14 := b1.cell 4 _ rfl
            have cb15 := b1.cell 5 _ rfl
            have cb16 := b1.cell 6 _ rfl
            have cb17 := b1.cell 7 _ rfl
            go_wp2_with fail
            clear cb10 cb11 cb12 cb13 cb14 cb15 cb16 cb17
            go_meet
            exact ⟨by rw [HV.out]; rfl, H0⟩
          · have HV : Hid ((true && true) = true) := Lib.hid rfl
            have cb10 := b1.cell 0 _ rfl
            have cb11 := b1.cell 1 _ rfl
            have cb12 := b1.cell 2 _ rfl
            have cb13 := b1.cell 3 _ rfl
            have cb14 := b1.cell 4 _ rfl
            have cb15 := b1.cell 5 _ rfl
            have cb16 := b1.cell 6 _ rfl
            have cb17 := b1.cell 7 _ rfl
            go_wp2_with fail
            clear cb10 cb11 cb12 cb13 cb14 cb15 cb16 cb17
            refine (normalq_b r0 r1 l0 l1 X0.out).mono ?_
            rintro e w20 ⟨rfl, hb⟩
            replace r0 := r0.below hb
            replace r1 := r1.below hb
            replace r2 := r2.below hb
            replace r3 := r3.below hb
            replace b1 := b1.below hb
            replace b2 := b2.below hb
            have H0 := hb
            clear hb
            have cb10 := b1.cell 0 _ rfl
            have cb11 := b1.cell 1 _ rfl
            have cb12 := b1.cell 2 _ rfl
            have cb13 := b1.cell 3 _ rfl
            have cb14 := b1.cell 4 _ rfl
            have cb15 := b1.cell 5 _ rfl
            have cb16 := b1.cell 6 _ rfl
            have cb17 := b1.cell 7 _ rfl
            go_wp2_with fail
            clear cb10 cb11 cb12 cb13 cb14 cb15 cb16 cb17
            refine (normalq_b r2 r3 l2 l3 X1.out).mono ?_
            rintro e w21 ⟨rfl, hb⟩
            replace r0 := r0.below hb
            replace r1 := r1.below hb
            replace r2 := r2.below hb
            replace r3 := r3.below hb
            replace b1 := b1.below hb
            replace b2 := b2.below hb
            replace H0 := H0.trans (hb.mono H0.size)
            clear hb
            have cb10 := b1.cell 0 _ rfl
            have cb11 := b1.cell 1 _ rfl
            have cb12 := b1.cell 2 _ rfl
            have cb13 := b1.cell 3 _ rfl
            have cb14 := b1.cell 4 _ rfl
            have cb15 := b1.cell 5 _ rfl
            have cb16 := b1.cell 6 _ rfl
            have cb17 := b1.cell 7 _ rfl
            go_wp2_with fail
            clear cb10 cb11 cb12 cb13 cb14 cb15 cb16 cb17
            go_meet
            exact ⟨by rw [HV.out]; rfl, H0⟩
        · have X1 := Lib.hid (show zb s1 n1 m1 = u1 from by rw [q3_, q4_]; exact h9)
          clear h8 h9 q1_ q2_ q3_ q4_
          cases u1
          · have HV : Hid ((true && false) = false) := Lib.hid rfl
            have cb10 := b1.cell 0 _ rfl
            have cb11 := b1.cell 1 _ rfl
            have cb12 := b1.cell 2 _ rfl
            have cb13 := b1.cell 3 _ rfl
            have cb14 := b1.cell 4 _ rfl
            have cb15 := b1.cell 5 _ rfl
            have cb16 := b1.cell 6 _ rfl
            have cb17 := b1.cell 7 _ rfl
            go_wp2_with fail
            clear cb10 cb11 cb12 cb13 cb14 cb15 cb16 cb17
            refine (normalq_b r0 r1 l0 l1 X0.out).mono ?_
            rintro e w20 ⟨rfl, hb⟩
            replace r0 := r0.below hb
            replace r1 := r1.below hb
            replace r2 := r2.below hb
            replace r3 := r3.below hb
            replace b1 := b1.below hb
            replace b2 := b2.below hb
            have H0 := hb
            clear hb
            have cb10 := b1.cell 0 _ rfl
            have cb11 := b1.cell 1 _ rfl
            have cb12 := b1.cell 2 _ rfl
            have cb13 := b1.cell 3 _ rfl
            have cb14 := b1.cell 4 _ rfl
            have cb15 := b1.cell 5 _ rfl
            have cb16 := b1.cell 6 _ rfl
            have cb17 := b1.cell 7 _ rfl
            go_wp2_with fail
            clear cb10 cb11 cb12 cb13 cb14 cb15 cb16 cb17
            refine (zero_b X1.out).mono ?_
            rintro e w21 ⟨rfl, hb⟩
            replace r0 := r0.below hb
            replace r1 := r1.below hb
            replace r2 := r2.below hb
            replace r3 := r3.below hb
            replace b1 := b1.below hb
            replace b2 := b2.below hb
            replace H0 := H0.trans (hb.mono H0.size)
            clear hb
            have cb10 := b1.cell 0 _ rfl
            have cb11 := b1.cell 1 _ rfl
            have cb12 := b1.cell 2 _ rfl
            have cb13 := b1.cell 3 _ rfl
            have cb14 := b1.cell 4 _ rfl
            have cb15 := b1.cell 5 _ rfl
            have cb16 := b1.cell 6 _ rfl
            have cb17 := b1.cell 7 _ rfl
            go_wp2_with fail
            clear cb10 cb11 cb12 cb13 cb14 cb15 cb16 cb17
            go_meet
            exact ⟨by rw [HV.out]; rfl, H0⟩
          · have HV : Hid ((true && true) = true) := Lib.hid rfl
            have cb10 := b1.cell 0 _ rfl
            have cb11 := b1.cell 1 _ rfl
            have cb12 := b1.cell 2 _ rfl
            have cb13 := b1.cell 3 _ rfl
            have cb14 := b1.cell 4 _ rfl
            have cb15 := b1.cell 5 _ rfl
            have cb16 := b1.cell 6 _ rfl
            have cb17 := b1.cell 7 _ rfl
            go_wp2_with fail
            clear cb10 cb11 cb12 cb13 cb14 cb15 cb16 cb17
            refine (normalq_b r0 r1 l0 l1 X0.out).mono ?_
            rintro e w20 ⟨rfl, hb⟩
            replace r0 := r0.below hb
            replace r1 := r1.below hb
            replace r2 := r2.below hb
            replace r3 := r3.below hb
            replace b1 := b1.below hb
            replace b2 := b2.below hb
            have H0 := hb
            clear hb
            have cb10 := b1.cell 0 _ rfl
            have cb11 := b1.cell 1 _ rfl
            have cb12 := b1.cell 2 _ rfl
            have cb13 := b1.cell 3 _ rfl
            have cb14 := b1.cell 4 _ rfl
            have cb15 := b1.cell 5 _ rfl
            have cb16 := b1.cell 6 _ rfl
            have cb17 := b1.cell 7 _ rfl
            go_wp2_with fail
            clear cb10 cb11 cb12 cb13 cb14 cb15 cb16 cb17
            refine (zero_b X1.out).mono ?_
            rintro e w21 ⟨rfl, hb⟩
            replace r0 := r0.below hb
            replace r1 := r1.below hb
            replace r2 := r2.below hb
            replace r3 := r3.below hb
            replace b1 := b1.below hb
            replace b2 := b2.below hb
            replace H0 := H0.trans (hb.mono H0.size)
            clear hb
            have cb10 := b1.cell 0 _ rfl
            have cb11 := b1.cell 1 _ rfl
            have cb12 := b1.cell 2 _ rfl
            have cb13 := b1.cell 3 _ rfl
            have cb14 := b1.cell 4 _ rfl
            have cb15 := b1.cell 5 _ rfl
            have cb16 := b1.cell 6 _ rfl
            have cb17 := b1.cell 7 _ rfl
            go_wp2_with fail
            clear cb10 cb11 cb12 cb13 cb14 cb15 cb16 cb17
            go_meet
            exact ⟨by rw [HV.out]; rfl, H0⟩
    · have X0 := Lib.hid (show zb s0 n0 m0 = u0 from by rw [q1_, q2_]; exact h8)
      cases u0
      · have HV : Hid ((false && u1) = false) := Lib.hid rfl
        clear h8 h9 q1_ q2_ q3_ q4_
        have cb10 := b1.cell 0 _ rfl
        have cb11 := b1.cell 1 _ rfl
        have cb12 := b1.cell 2 _ rfl
        have cb13 := b1.cell 3 _ rfl
        have cb14 := b1.cell 4 _ rfl
        have cb15 := b1.cell 5 _ rfl
        have cb16 := b1.cell 6 _ rfl
        have cb17 := b1.cell 7 _ rfl
        go_wp2_with fail
        clear cb10 cb11 cb12 cb13 cb14 cb15 cb16 cb17
        refine (zero_b X0.out).mono ?_
        rintro e w20 ⟨rfl, hb⟩
        replace r0 := r0.below hb
        replace r1 := r1.below hb
        replace r2 := r2.below hb
        replace r3 := r3.below hb
        replace b1 := b1.below hb
        replace b2 := b2.below hb
        have H0 := hb
        clear hb
        have cb10 := b1.cell 0 _ rfl
        have cb11 := b1.cell 1 _ rfl
        have cb12 := b1.cell 2 _ rfl
        have cb13 := b1.cell 3 _ rfl
        have cb14 := b1.cell 4 _ rfl
        have cb15 := b1.cell 5 _ rfl
        have cb16 := b1.cell 6 _ rfl
        have cb17 := b1.cell 7 _ rfl
        go_wp2_with fail
        clear cb10 cb11 cb12 cb13 cb14 cb15 cb16 cb17
        go_meet
        exact ⟨by rw [HV.out]; rfl, H0⟩
      · cases h0
        · have X1 := Lib.hid (show normQB s1 dc de = u1 from h9)
          clear h8 h9 q1_ q2_ q3_ q4_
          cases u1
          · have HV : Hid ((true && false) = false) := Lib.hid rfl
            have cb10 := b1.cell 0 _ rfl
            have cb11 := b1.cell 1 _ rfl
            have cb12 := b1.cell 2 _ rfl
            have cb13 := b1.cell 3 _ rfl
            have cb14 := b1.cell 4 _ rfl
            have cb15 := b1.cell 5 _ rfl
            have cb16 := b1.cell 6 _ rfl
            have cb17 := b1.cell 7 _ rfl
            go_wp2_with fail
            clear cb10 cb11 cb12 cb13 cb14 cb15 cb16 cb17
            refine (zero_b X0.out).mono ?_
            rintro e w20 ⟨rfl, hb⟩
            replace r0 := r0.below hb
            replace r1 := r1.below hb
            replace r2 := r2.below hb
            replace r3 := r3.below hb
            replace b1 := b1.below hb
            replace b2 := b2.below hb
            have H0 := hb
            clear hb
            have cb10 := b1.cell 0 _ rfl
            have cb11 := b1.cell 1 _ rfl
            have cb12 := b1.cell 2 _ rfl
            have cb13 := b1.cell 3 _ rfl
            have cb14 := b1.cell 4 _ rfl
            have cb15 := b1.cell 5 _ rfl
            have cb16 := b1.cell 6 _ rfl
            have cb17 := b1.cell 7 _ rfl
            go_wp2_with fail
            clear cb10 cb11 cb12 cb13 cb14 cb15 cb16 cb17
            refine (normalq_b r2 r3 l2 l3 X1.out).mono ?_
            rintro e w21 ⟨rfl, hb⟩
            replace r0 := r0.below hb
            replace r1 := r1.below hb
            replace r2 := r2.below hb
            replace r3 := r3.below hb
            replace b1 := b1.below hb
            replace b2 := b2.below hb
            replace H0 := H0.trans (hb.mono H0.size)
            clear hb
            have cb10 := b1.cell 0 _ rfl
            have cb11 := b1.cell 1 _ rfl
            have cb12 := b1.cell 2 _ rfl
            have cb13 := b1.cell 3 _ rfl
            have cb14 := b1.cell 4 _ rfl
            have cb15 := b1.cell 5 _ rfl
            have cb16 := b1.cell 6 _ rfl
            have cb17 := b1.cell 7 _ rfl
            go_wp2_with fail
            clear cb10 cb11 cb12 cb13 cb14 cb15 cb16 cb17
            go_meet
            exact ⟨by rw [HV.out]; rfl, H0⟩
          · have HV : Hid ((true && true) = true) := Lib.hid rfl
            have cb10 := b1.cell 0 _ rfl
            have cb11 := b1.cell 1 _ rfl
            have cb12 := b1.cell 2 _ rfl
            have cb13 := b1.cell 3 _ rfl
            have cb14 := b1.cell 4 _ rfl
            have cb15 := b1.cell 5 _ rfl
            have cb16 := b1.cell 6 _ rfl
            have cb17 := b1.cell 7 _ rfl
            go_wp2_with fail
            clear cb10 cb11 cb12 cb13 cb14 cb15 cb16 cb17
            refine (zero_b X0.out).mono ?_
            rintro e w20 ⟨rfl, hb⟩
            replace r0 := r0.below hb
            replace r1 := r1.below hb
            replace r2 := r2.below hb
            replace r3 := r3.below hb
            replace b1 := b1.below hb
            replace b2 := b2.below hb
            have H0 := hb
            clear hb
            have cb10 := b1.cell 0 _ rfl
            have cb11 := b1.cell 1 _ rfl
            have cb12 := b1.cell 2 _ rfl
            have cb13 := b1.cell 3 _ rfl
            have cb14 := b1.cell 4 _ rfl
            have cb15 := b1.cell 5 _ rfl
            have cb16 := b1.cell 6 _ rfl
            have cb17 := b1.cell 7 _ rfl
            go_wp2_with fail
            clear cb10 cb11 cb12 cb13 cb14 cb15 cb16 cb17
            refine (normalq_b r2 r3 l2 l3 X1.out).mono ?_
            rintro e w21 ⟨rfl, hb⟩
            replace r0 := r0.below hb
            replace r1 := r1.below hb
            replace r2 := r2.below hb
            replace r3 := r3.below hb
            replace b1 := b1.below hb
            replace b2 := b2.below hb
            replace H0 := H0.trans (hb.mono H0.size)
            clear hb
            have cb10 := b1.cell 0 _ rfl
            have cb11 := b1.cell 1 _ rfl
            have cb12 := b1.cell 2 _ rfl
            have cb13 := b1.cell 3 _ rfl
            have cb14 := b1.cell 4 _ rfl
            have cb15 := b1.cell 5 _ rfl
            have cb16 := b1.cell 6 _ rfl
            have cb17 := b1.cell 7 _ rfl
            go_wp2_with fail
            clear cb10 cb11 cb12 cb13 cb14 cb15 cb16 cb17
            go_meet
            exact ⟨by rw [HV.out]; rfl, H0⟩
        · have X1 := Lib.hid (show zb s1 n1 m1 = u1 from by rw [q3_, q4_]; exact h9)
          clear h8 h9 q1_ q2_ q3_ q4_
          cases u1
          · have HV : Hid ((true && false) = false) := Lib.hid rfl
            have cb10 := b1.cell 0 _ rfl
            have cb11 := b1.cell 1 _ rfl
            have cb12 := b1.cell 2 _ rfl
            have cb13 := b1.cell 3 _ rfl
            have cb14 := b1.cell 4 _ rfl
            have cb15 := b1.cell 5 _ rfl
            have cb16 := b1.cell 6 _ rfl
            have cb17 := b1.cell 7 _ rfl
            go_wp2_with fail
            clear cb10 cb11 cb12 cb13 cb14 cb15 cb16 cb17
            refine (zero_b X0.out).mono ?_
            rintro e w20 ⟨rfl, hb⟩
            replace r0 := r0.below hb
            replace r1 := r1.below hb
            replace r2 := r2.below hb
            replace r3 := r3.below hb
            replace b1 := b1.below hb
            replace b2 := b2.below hb
            have H0 := hb
            clear hb
            have cb10 := b1.cell 0 _ rfl
            have cb11 := b1.cell 1 _ rfl
            have cb12 := b1.cell 2 _ rfl
            have cb13 := b1.cell 3 _ rfl
            have cb14 := b1.cell 4 _ rfl
            have cb15 := b1.cell 5 _ rfl
            have cb16 := b1.cell 6 _ rfl
            have cb17 := b1.cell 7 _ rfl
            go_wp2_with fail
            clear cb10 cb11 cb12 cb13 cb14 cb15 cb16 cb17
            refine (zero_b X1.out).mono ?_
            rintro e w21 ⟨rfl, hb⟩
            replace r0 := r0.below hb
            replace r1 := r1.below hb
            replace r2 := r2.below hb
            replace r3 := r3.below hb
            replace b1 := b1.below hb
            replace b2 := b2.below hb
            replace H0 := H0.trans (hb.mono H0.size)
            clear hb
            have cb10 := b1.cell 0 _ rfl
            have cb11 := b1.cell 1 _ rfl
            have cb12 := b1.cell 2 _ rfl
            have cb13 := b1.cell 3 _ rfl
            have cb14 := b1.cell 4 _ rfl
            have cb15 := b1.cell 5 _ rfl
            have cb16 := b1.cell 6 _ rfl
            have cb17 := b1.cell 7 _ rfl
            go_wp2_with fail
            clear cb10 cb11 cb12 cb13 cb14 cb15 cb16 cb17
            go_meet
            exact ⟨by rw [HV.out]; rfl, H0⟩
          · have HV : Hid ((true && true) = true) := Lib.hid rfl
            have cb10 := b1.cell 0 _ rfl
            have cb11 := b1.cell 1 _ rfl
            have cb12 := b1.cell 2 _ rfl
            have cb13 := b1.cell 3 _ rfl
            have cb14 := b1.cell 4 _ rfl
            have cb15 := b1.cell 5 _ rfl
            have cb16 := b1.cell 6 _ rfl
            have cb17 := b1.cell 7 _ rfl
            go_wp2_with fail
            clear cb10 cb11 cb12 cb13 cb14 cb15 cb16 cb17
            refine (zero_b X0.out).mono ?_
            rintro e w20 ⟨rfl, hb⟩
            replace r0 := r0.below hb
            replace r1 := r1.below hb
            replace r2 := r2.below hb
            replace r3 := r3.below hb
            replace b1 := b1.below hb
            replace b2 := b2.below hb
            have H0 := hb
            clear hb
            have cb10 := b1.cell 0 _ rfl
            have cb11 := b1.cell 1 _ rfl
            have cb12 := b1.cell 2 _ rfl
            have cb13 := b1.cell 3 _ rfl
            have cb14 := b1.cell 4 _ rfl
            have cb15 := b1.cell 5 _ rfl
            have cb16 := b1.cell 6 _ rfl
            have cb17 := b1.cell 7 _ rfl
            go_wp2_with fail
            clear cb10 cb11 cb12 cb13 cb14 cb15 cb16 cb17
            refine (zero_b X1.out).mono ?_
            rintro e w21 ⟨rfl, hb⟩
            replace r0 := r0.below hb
            replace r1 := r1.below hb
            replace r2 := r2.below hb
            replace r3 := r3.below hb
            replace b1 := b1.below hb
            replace b2 := b2.below hb
            replace H0 := H0.trans (hb.mono H0.size)
            clear hb
            have cb10 := b1.cell 0 _ rfl
            have cb11 := b1.cell 1 _ rfl
            have cb12 := b1.cell 2 _ rfl
            have cb13 := b1.cell 3 _ rfl
            have cb14 := b1.cell 4 _ rfl
            have cb15 := b1.cell 5 _ rfl
            have cb16 := b1.cell 6 _ rfl
            have cb17 := b1.cell 7 _ rfl
            go_wp2_with fail
            clear cb10 cb11 cb12 cb13 cb14 cb15 cb16 cb17
            go_meet
            exact ⟨by rw [HV.out]; rfl, H0⟩
  case rest =>
    obtain ⟨rfl, hG⟩ := hcut
    replace r0 := r0.below hG
    replace r1 := r1.below hG
    replace r2 := r2.below hG
    replace r3 := r3.below hG
    replace b1 := b1.below hG
    replace b2 := b2.below hG
    replace H0 := H0.trans (hG.mono H0.size)
    clear hG
    obtain ⟨bb, hbb⟩ : ∃ k, (u0 && u1) = k := ⟨_, rfl⟩
    rw [hbb]
    have HO : Hid (rwOk s0 da db s1 dc de f0 h0 = (bb && (f0 || (h0 || decide (rq s0 da db < rq s1 dc de))))) := Lib.hid (by rw [HK.out, ← hbb, Bool.and_assoc])
    clear hbb HK H8 H9
    cases bb
    · have cb20 := b2.cell 0 _ rfl
      have yb20 := b2.frozen 0
      have cb21 := b2.cell 1 _ rfl
      have yb21 := b2.frozen 1
      have cb22 := b2.cell 2 _ rfl
      have yb22 := b2.frozen 2
      have cb23 := b2.cell 3 _ rfl
      have yb23 := b2.frozen 3
      have cb24 := b2.cell 4 _ rfl
      have yb24 := b2.frozen 4
      have cb25 := b2.cell 5 _ rfl
      have yb25 := b2.frozen 5
      have cb26 := b2.cell 6 _ rfl
      have yb26 := b2.frozen 6
      have cb27 := b2.cell 7 _ rfl
      have yb27 := b2.frozen 7
      go_wp2_with fail
      clear cb20 yb20 cb21 yb21 cb22 yb22 cb23 yb23 cb24 yb24 cb25 yb25 cb26 yb26 cb27 yb27
      have hg : World.grownBy wc ((((((((wc.setCell ⟨w.heap.size + 1, 0, none⟩ (.bool false)).setCell ⟨w.heap.size + 1, 1, none⟩ (.slice none 0 0)).setCell ⟨w.heap.size + 1, 2, none⟩ (.slice none 0 0)).setCell ⟨w.heap.size + 1, 3, none⟩ (.bool false)).setCell ⟨w.heap.size + 1, 4, none⟩ (.slice none 0 0)).setCell ⟨w.heap.size + 1, 5, none⟩ (.slice none 0 0)).setCell ⟨w.heap.size + 1, 6, none⟩ (.bool false)).setCell ⟨w.heap.size + 1, 7, none⟩ (.bool false)) (some (w.heap.size + 1)) := only_trans (only_trans (only_trans (only_trans (only_trans (only_trans (only_trans (only_setCell _ ⟨w.heap.size + 1, 0, none⟩ (.bool false)) (only_setCell _ ⟨w.heap.size + 1, 1, none⟩ (.slice none 0 0))) (only_setCell _ ⟨w.heap.size + 1, 2, none⟩ (.slice none 0 0))) (only_setCell _ ⟨w.heap.size + 1, 3, none⟩ (.bool false))) (only_setCell _ ⟨w.heap.size + 1, 4, none⟩ (.slice none 0 0))) (only_setCell _ ⟨w.heap.size + 1, 5, none⟩ (.slice none 0 0))) (only_setCell _ ⟨w.heap.size + 1, 6, none⟩ (.bool false))) (only_setCell _ ⟨w.heap.size + 1, 7, none⟩ (.bool false))
      have hB : Box ((((((((wc.setCell ⟨w.heap.size + 1, 0, none⟩ (.bool false)).setCell ⟨w.heap.size + 1, 1, none⟩ (.slice none 0 0)).setCell ⟨w.heap.size + 1, 2, none⟩ (.slice none 0 0)).setCell ⟨w.heap.size + 1, 3, none⟩ (.bool false)).setCell ⟨w.heap.size + 1, 4, none⟩ (.slice none 0 0)).setCell ⟨w.heap.size + 1, 5, none⟩ (.slice none 0 0)).setCell ⟨w.heap.size + 1, 6, none⟩ (.bool false)).setCell ⟨w.heap.size + 1, 7, none⟩ (.bool false)) (w.heap.size + 1) #[.bool false, .slice none 0 0, .slice none 0 0, .bool false, .slice none 0 0, .slice none 0 0, .bool false, .bool false] 39 := (Box.step (Box.step (Box.step (Box.step (Box.step (Box.step (Box.step (Box.step b2 0 (.bool false)) 1 (.slice none 0 0)) 2 (.slice none 0 0)) 3 (.bool false)) 4 (.slice none 0 0)) 5 (.slice none 0 0)) 6 (.bool false)) 7 (.bool false))
      generalize hX : ((((((((wc.setCell ⟨w.heap.size + 1, 0, none⟩ (.bool false)).setCell ⟨w.heap.size + 1, 1, none⟩ (.slice none 0 0)).setCell ⟨w.heap.size + 1, 2, none⟩ (.slice none 0 0)).setCell ⟨w.heap.size + 1, 3, none⟩ (.bool false)).setCell ⟨w.heap.size + 1, 4, none⟩ (.slice none 0 0)).setCell ⟨w.heap.size + 1, 5, none⟩ (.slice none 0 0)).setCell ⟨w.heap.size + 1, 6, none⟩ (.bool false)).setCell ⟨w.heap.size + 1, 7, none⟩ (.bool false)) = X60 at hg hB ⊢
      clear hX
      replace r0 := r0.kept b2 (by simp [notInt]) hg
      replace r1 := r1.kept b2 (by simp [notInt]) hg
      replace r2 := r2.kept b2 (by simp [notInt]) hg
      replace r3 := r3.kept b2 (by simp [notInt]) hg
      replace b1 := b1.other hg (by omega)
      replace b2 := hB
      replace H0 := below_only H0 hg (by omega) H0.size
      clear hg hB
      refine bodyPost_ret (ret_s6b rfl rfl b2) rfl ?_
      exact ⟨by unfold ReadQ; exact ⟨_, _, _, _, _, _, _, _, _, _, _, _, _, _, _, _, by rw [HO.out]; rfl, fun hx => (by rw [HO.out] at hx; cases hx)⟩, H0⟩
    · go_wp2_with fail
      have lcb1_60 := b1.lt
      have lcb2_60 := b2.lt
      go_cut [4] from 46 (fun u60_0 wx => ∃ g60_0 s2 A2 n2 c2 D2 m2 e2 s3 A3 n3 c3 D3 m3 e3, u60_0 = .pointer (some ⟨g60_0, 0, none⟩) ∧ PQ wx s2 (.slice A2 n2 c2) (.slice D2 m2 e2) (rq s0 da db) 4 ∧ PQ wx s3 (.slice A3 n3 c3) (.slice D3 m3 e3) (rq s1 dc de) 4 ∧ Box wx g60_0 #[.bool s2, .slice A2 n2 c2, .slice D2 m2 e2, .bool s3, .slice A3 n3 c3, .slice D3 m3 e3, .bool f0, .bool h0] 39 ∧ wc.heap.size ≤ g60_0 ∧ Below wc.heap.size wc wx)
      case first =>
        have hG := drawn_below wc
        refine wp_region_noPanic ?_
        refine wp_region_held_drew (S := (fun V => V.cell? ⟨w.heap.size, 0, none⟩ = some (.bool s0) ∧ V.cell? ⟨w.heap.size, 1, none⟩ = some (.slice A0 n0 c0) ∧ V.cell? ⟨w.heap.size, 2, none⟩ = some (.slice D0 m0 e0) ∧ V.cell? ⟨w.heap.size, 3, none⟩ = some (.bool s1) ∧ V.cell? ⟨w.heap.size, 4, none⟩ = some (.slice A1 n1 c1) ∧ V.cell? ⟨w.heap.size, 5, none⟩ = some (.slice D1 m1 e1) ∧ V.cell? ⟨w.heap.size, 6, none⟩ = some (.bool f0) ∧ V.cell? ⟨w.heap.size, 7, none⟩ = some (.bool h0))) (by kernel_rfl) ⟨(b1.below hG).cell 0 _ rfl, (b1.below hG).cell 1 _ rfl, (b1.below hG).cell 2 _ rfl, (b1.below hG).cell 3 _ rfl, (b1.below hG).cell 4 _ rfl, (b1.below hG).cell 5 _ rfl, (b1.below hG).cell 6 _ rfl, (b1.below hG).cell 7 _ rfl⟩ (fun hHeld => ?_)
        generalize wc.drew = v60 at hG hHeld ⊢
        have sG := hG.size
        refine wpAnyH_take (i := 0) (v := ?_) rfl (by kernel_rfl) (by kernel_rfl) (by kernel_rfl) (fun _ _ _ h => h) (Or.inl ⟨by rfl, ?_⟩) (by assumption) ?_
        rotate_left
        · (intro w hSw; (try dsimp only at hSw); go_simp; (try with_reducible rfl))
        (try simp only [List.getElem_toArray, List.getElem_cons_zero, Act.put, List.setIfInBounds_toArray, List.set_cons_zero, List.set_cons_succ])
        refine wpAnyH_take (i := 1) (v := ?_) rfl (by kernel_rfl) (by kernel_rfl) (by kernel_rfl) (fun _ _ _ h => h) (Or.inl ⟨by rfl, ?_⟩) (by assumption) ?_
        rotate_left
        · (intro w hSw; (try dsimp only at hSw); go_simp; (try with_reducible rfl))
        (try simp only [List.getElem_toArray, List.getElem_cons_succ, List.getElem_cons_zero, Act.put, List.setIfInBounds_toArray, List.set_cons_zero, List.set_cons_succ])
        refine wpAnyH_take (i := 3) (v := ?_) rfl (by kernel_rfl) (by kernel_rfl) (by kernel_rfl) (fun _ _ _ h => h) (Or.inl ⟨by rfl, ?_⟩) (by assumption) ?_
        rotate_left
        · (intro w hSw; (try dsimp only at hSw); go_simp; (try with_reducible rfl))
        (try simp only [List.getElem_toArray, List.getElem_cons_succ, List.getElem_cons_zero, Act.put, List.setIfInBounds_toArray, List.set_cons_zero, List.set_cons_succ])
        refine wpAnyH_take (i := 4) (v := ?_) rfl (by kernel_rfl) (by kernel_rfl) (by kernel_rfl) (fun _ _ _ h => h) (Or.inl ⟨by rfl, ?_⟩) (by assumption) ?_
        rotate_left
        · (intro w hSw; (try dsimp only at hSw); go_simp; (try with_reducible rfl))
        (try simp only [List.getElem_toArray, List.getElem_cons_succ, List.getElem_cons_zero, Act.put, List.setIfInBounds_toArray, List.set_cons_zero, List.set_cons_succ])
        refine wpAnyH_take (i := 6) (v := ?_) rfl (by kernel_rfl) (by kernel_rfl) (by kernel_rfl) (fun _ _ _ h => h) (Or.inl ⟨by rfl, ?_⟩) (by assumption) ?_
        rotate_left
        · (intro w hSw; (try dsimp only at hSw); go_simp; (try with_reducible rfl))
        (try simp only [List.getElem_toArray, List.getElem_cons_succ, List.getElem_cons_zero, Act.put, List.setIfInBounds_toArray, List.set_cons_zero, List.set_cons_succ])
        refine wpAnyH_take (i := 7) (v := ?_) rfl (by kernel_rfl) (by kernel_rfl) (by kernel_rfl) (fun _ _ _ h => h) (Or.inl ⟨by rfl, ?_⟩) (by assumption) ?_
        rotate_left
        · (intro w hSw; (try dsimp only at hSw); go_simp; (try with_reducible rfl))
        (try simp only [List.getElem_toArray, List.getElem_cons_succ, List.getElem_cons_zero, Act.put, List.setIfInBounds_toArray, List.set_cons_zero, List.set_cons_succ])
        refine wpAnyH_take (i := 8) (v := ?_) rfl (by kernel_rfl) (by kernel_rfl) (by kernel_rfl) (fun _ _ _ h => h) (Or.inl ⟨by rfl, ?_⟩) (by assumption) ?_
        rotate_left
        · (intro w hSw; (try dsimp only at hSw); go_simp; (try with_reducible rfl))
        (try simp only [List.getElem_toArray, List.getElem_cons_succ, List.getElem_cons_zero, Act.put, List.setIfInBounds_toArray, List.set_cons_zero, List.set_cons_succ])
        refine wpAnyH_take (i := 9) (v := ?_) rfl (by kernel_rfl) (by kernel_rfl) (by kernel_rfl) (fun _ _ _ h => h) (Or.inl ⟨by rfl, ?_⟩) (by assumption) ?_
        rotate_left
        · (intro w hSw; (try dsimp only at hSw); go_simp; (try with_reducible rfl))
        (try simp only [List.getElem_toArray, List.getElem_cons_succ, List.getElem_cons_zero, Act.put, List.setIfInBounds_toArray, List.set_cons_zero, List.set_cons_succ])
        refine wpAnyH_ready (rs := [2, 11]) (by kernel_rfl) (by simp) (AllReadyH.cons (o := _) rfl (fun K hK => ?_) (AllReadyH.cons (o := _) rfl (fun K hK => ?_) AllReadyH.nil))
        · go_simp
          go_at_call 20
          refine (refq_v (raw_rq (L := 4) (r0.below hG) (r1.below hG) l0 l1) (by decide)).mono ?_
          rintro e y60_1 ⟨s2, A2, n2, c2, D2, m2, e2, rfl, j0, hb9⟩
          have szy60_1 := hb9.size
          replace hG := hG.trans (hb9.mono sG)
          replace sG := hG.size
          clear hb9
          go_wp2_with fail
          refine hK.out _ _ ⟨(b1.below hG).cell 0 _ rfl, (b1.below hG).cell 1 _ rfl, (b1.below hG).cell 2 _ rfl, (b1.below hG).cell 3 _ rfl, (b1.below hG).cell 4 _ rfl, (b1.below hG).cell 5 _ rfl, (b1.below hG).cell 6 _ rfl, (b1.below hG).cell 7 _ rfl⟩ (fun hHeld => ?_)
          clear hK K
          (try simp only [List.getElem_toArray, List.getElem_cons_succ, List.getElem_cons_zero, Act.put, List.setIfInBounds_toArray, List.set_cons_zero, List.set_cons_succ])
          refine wpAnyH_ready (rs := [5, 11]) (by kernel_rfl) (by simp) (AllReadyH.cons (o := _) rfl (fun K hK => ?_) (AllReadyH.cons (o := _) rfl (fun K hK => ?_) AllReadyH.nil))
          · go_simp
            go_at_call 20
            refine (refq_v (raw_rq (L := 4) (r2.below hG) (r3.below hG) l2 l3) (by decide)).mono ?_
            rintro e y60_2 ⟨s3, A3, n3, c3, D3, m3, e3, rfl, j1, hb9⟩
            have szy60_2 := hb9.size
            replace j0 := j0.below hb9
            replace hG := hG.trans (hb9.mono sG)
            replace sG := hG.size
            clear hb9
            go_wp2_with fail
            refine hK.out _ _ ⟨(b1.below hG).cell 0 _ rfl, (b1.below hG).cell 1 _ rfl, (b1.below hG).cell 2 _ rfl, (b1.below hG).cell 3 _ rfl, (b1.below hG).cell 4 _ rfl, (b1.below hG).cell 5 _ rfl, (b1.below hG).cell 6 _ rfl, (b1.below hG).cell 7 _ rfl⟩ (fun hHeld => ?_)
            clear hK K
            (try simp only [List.getElem_toArray, List.getElem_cons_succ, List.getElem_cons_zero, Act.put, List.setIfInBounds_toArray, List.set_cons_zero, List.set_cons_succ])
            refine wpAnyH_take (i := 10) (v := ?_) rfl (by kernel_rfl) (by kernel_rfl) (by kernel_rfl) (fun _ _ _ h => h) (Or.inl ⟨by rfl, ?_⟩) (by assumption) ?_
            rotate_left
            · (intro w hSw; (try dsimp only at hSw); go_simp; (try with_reducible rfl))
            (try simp only [List.getElem_toArray, List.getElem_cons_succ, List.getElem_cons_zero, Act.put, List.setIfInBounds_toArray, List.set_cons_zero, List.set_cons_succ])
            refine wpAnyH_ready (rs := [11]) (by kernel_rfl) (by simp) (AllReadyH.cons (o := _) rfl (fun K hK => ?_) AllReadyH.nil)
            go_simp
            obtain ⟨y60_3, hV, b4, hb9, szy60_3⟩ := boxes1 y60_2 #[.bool false, .slice none 0 0, .slice none 0 0, .bool false, .slice none 0 0, .slice none 0 0, .bool false, .bool false] 39
            rw [hV]
            clear hV
            have gly60_3 : wc.heap.size ≤ y60_2.heap.size := sG
            replace szy60_3 : y60_2.heap.size < y60_3.heap.size := by omega
            replace j0 := j0.below hb9
            replace j1 := j1.below hb9
            replace hG := hG.trans (hb9.mono sG)
            replace sG := hG.size
            clear hb9
            refine hK.out _ _ ⟨(b1.below hG).cell 0 _ rfl, (b1.below hG).cell 1 _ rfl, (b1.below hG).cell 2 _ rfl, (b1.below hG).cell 3 _ rfl, (b1.below hG).cell 4 _ rfl, (b1.below hG).cell 5 _ rfl, (b1.below hG).cell 6 _ rfl, (b1.below hG).cell 7 _ rfl⟩ (fun hHeld => ?_)
            clear hK K
            (try simp only [List.getElem_toArray, List.getElem_cons_succ, List.getElem_cons_zero, Act.put, List.setIfInBounds_toArray, List.set_cons_zero, List.set_cons_succ])
            have rb40 := b4.cell 0 _ rfl
            have qb40 := b4.frozen 0
            have rb41 := b4.cell 1 _ rfl
            have qb41 := b4.frozen 1
            have rb42 := b4.cell 2 _ rfl
            have qb42 := b4.frozen 2
            have rb43 := b4.cell 3 _ rfl
            have qb43 := b4.frozen 3
            have rb44 := b4.cell 4 _ rfl
            have qb44 := b4.frozen 4
            have rb45 := b4.cell 5 _ rfl
            have qb45 := b4.frozen 5
            have rb46 := b4.cell 6 _ rfl
            have qb46 := b4.frozen 6
            have rb47 := b4.cell 7 _ rfl
            have qb47 := b4.frozen 7
            refine wpAnyH_ready (rs := [12]) (by kernel_rfl) (by simp) (AllReadyH.cons (o := _) rfl (fun K hK => ?_) AllReadyH.nil)
            go_simp
            clear rb40 qb40
            clear rb41 qb41
            clear rb42 qb42
            clear rb43 qb43
            clear rb44 qb44
            clear rb45 qb45
            clear rb46 qb46
            clear rb47 qb47
            have hg : World.grownBy y60_3 ((((((((y60_3.setCell ⟨y60_2.heap.size, 0, none⟩ (.bool s2)).setCell ⟨y60_2.heap.size, 1, none⟩ (.slice A2 n2 c2)).setCell ⟨y60_2.heap.size, 2, none⟩ (.slice D2 m2 e2)).setCell ⟨y60_2.heap.size, 3, none⟩ (.bool s3)).setCell ⟨y60_2.heap.size, 4, none⟩ (.slice A3 n3 c3)).setCell ⟨y60_2.heap.size, 5, none⟩ (.slice D3 m3 e3)).setCell ⟨y60_2.heap.size, 6, none⟩ (.bool f0)).setCell ⟨y60_2.heap.size, 7, none⟩ (.bool h0)) (some (y60_2.heap.size)) := only_trans (only_trans (only_trans (only_trans (only_trans (only_trans (only_trans (only_setCell _ ⟨y60_2.heap.size, 0, none⟩ (.bool s2)) (only_setCell _ ⟨y60_2.heap.size, 1, none⟩ (.slice A2 n2 c2))) (only_setCell _ ⟨y60_2.heap.size, 2, none⟩ (.slice D2 m2 e2))) (only_setCell _ ⟨y60_2.heap.size, 3, none⟩ (.bool s3))) (only_setCell _ ⟨y60_2.heap.size, 4, none⟩ (.slice A3 n3 c3))) (only_setCell _ ⟨y60_2.heap.size, 5, none⟩ (.slice D3 m3 e3))) (only_setCell _ ⟨y60_2.heap.size, 6, none⟩ (.bool f0))) (only_setCell _ ⟨y60_2.heap.size, 7, none⟩ (.bool h0))
            have hB : Box ((((((((y60_3.setCell ⟨y60_2.heap.size, 0, none⟩ (.bool s2)).setCell ⟨y60_2.heap.size, 1, none⟩ (.slice A2 n2 c2)).setCell ⟨y60_2.heap.size, 2, none⟩ (.slice D2 m2 e2)).setCell ⟨y60_2.heap.size, 3, none⟩ (.bool s3)).setCell ⟨y60_2.heap.size, 4, none⟩ (.slice A3 n3 c3)).setCell ⟨y60_2.heap.size, 5, none⟩ (.slice D3 m3 e3)).setCell ⟨y60_2.heap.size, 6, none⟩ (.bool f0)).setCell ⟨y60_2.heap.size, 7, none⟩ (.bool h0)) (y60_2.heap.size) #[.bool s2, .slice A2 n2 c2, .slice D2 m2 e2, .bool s3, .slice A3 n3 c3, .slice D3 m3 e3, .bool f0, .bool h0] 39 := (Box.step (Box.step (Box.step (Box.step (Box.step (Box.step (Box.step (Box.step b4 0 (.bool s2)) 1 (.slice A2 n2 c2)) 2 (.slice D2 m2 e2)) 3 (.bool s3)) 4 (.slice A3 n3 c3)) 5 (.slice D3 m3 e3)) 6 (.bool f0)) 7 (.bool h0))
            generalize hX : ((((((((y60_3.setCell ⟨y60_2.heap.size, 0, none⟩ (.bool s2)).setCell ⟨y60_2.heap.size, 1, none⟩ (.slice A2 n2 c2)).setCell ⟨y60_2.heap.size, 2, none⟩ (.slice D2 m2 e2)).setCell ⟨y60_2.heap.size, 3, none⟩ (.bool s3)).setCell ⟨y60_2.heap.size, 4, none⟩ (.slice A3 n3 c3)).setCell ⟨y60_2.heap.size, 5, none⟩ (.slice D3 m3 e3)).setCell ⟨y60_2.heap.size, 6, none⟩ (.bool f0)).setCell ⟨y60_2.heap.size, 7, none⟩ (.bool h0)) = Y60_4 at hg hB ⊢
            clear hX
            replace j0 := j0.kept b4 (by simp [notInt]) hg
            replace j1 := j1.kept b4 (by simp [notInt]) hg
            replace b4 := hB
            replace hG := below_only hG hg (by omega) sG
            replace sG := hG.size
            clear hg hB
            refine hK.out _ _ ⟨(b1.below hG).cell 0 _ rfl, (b1.below hG).cell 1 _ rfl, (b1.below hG).cell 2 _ rfl, (b1.below hG).cell 3 _ rfl, (b1.below hG).cell 4 _ rfl, (b1.below hG).cell 5 _ rfl, (b1.below hG).cell 6 _ rfl, (b1.below hG).cell 7 _ rfl⟩ (fun hHeld => ?_)
            clear hK K
            (try simp only [List.getElem_toArray, List.getElem_cons_succ, List.getElem_cons_zero, Act.put, List.setIfInBounds_toArray, List.set_cons_zero, List.set_cons_succ])
            refine wpAnyH_done (by kernel_rfl) ?_ _
            refine NoPanic.normal ?_
            go_wp2_with fail
            go_meet
            exact ⟨y60_2.heap.size, s2, A2, n2, c2, D2, m2, e2, s3, A3, n3, c3, D3, m3, e3, rfl, j0, j1, b4, (by omega), hG⟩
          · go_simp
            obtain ⟨y60_5, hV, b4, hb9, szy60_5⟩ := boxes1 y60_1 #[.bool false, .slice none 0 0, .slice none 0 0, .bool false, .slice none 0 0, .slice none 0 0, .bool false, .bool false] 39
            rw [hV]
            clear hV
            have gly60_5 : wc.heap.size ≤ y60_1.heap.size := sG
            replace szy60_5 : y60_1.heap.size < y60_5.heap.size := by omega
            replace j0 := j0.below hb9
            replace hG := hG.trans (hb9.mono sG)
            replace sG := hG.size
            clear hb9
            refine hK.out _ _ ⟨(b1.below hG).cell 0 _ rfl, (b1.below hG).cell 1 _ rfl, (b1.below hG).cell 2 _ rfl, (b1.below hG).cell 3 _ rfl, (b1.below hG).cell 4 _ rfl, (b1.below hG).cell 5 _ rfl, (b1.below hG).cell 6 _ rfl, (b1.below hG).cell 7 _ rfl⟩ (fun hHeld => ?_)
            clear hK K
            (try simp only [List.getElem_toArray, List.getElem_cons_succ, List.getElem_cons_zero, Act.put, List.setIfInBounds_toArray, List.set_cons_zero, List.set_cons_succ])
            refine wpAnyH_ready (rs := [5]) (by kernel_rfl) (by simp) (AllReadyH.cons (o := _) rfl (fun K hK => ?_) AllReadyH.nil)
            go_simp
            go_at_call 20
            refine (refq_v (raw_rq (L := 4) (r2.below hG) (r3.below hG) l2 l3) (by decide)).mono ?_
            rintro e y60_6 ⟨s3, A3, n3, c3, D3, m3, e3, rfl, j1, hb9⟩
            have szy60_6 := hb9.size
            replace j0 := j0.below hb9
            replace b4 := b4.below hb9
            replace hG := hG.trans (hb9.mono sG)
            replace sG := hG.size
            clear hb9
            go_wp2_with fail
            refine hK.out _ _ ⟨(b1.below hG).cell 0 _ rfl, (b1.below hG).cell 1 _ rfl, (b1.below hG).cell 2 _ rfl, (b1.below hG).cell 3 _ rfl, (b1.below hG).cell 4 _ rfl, (b1.below hG).cell 5 _ rfl, (b1.below hG).cell 6 _ rfl, (b1.below hG).cell 7 _ rfl⟩ (fun hHeld => ?_)
            clear hK K
            (try simp only [List.getElem_toArray, List.getElem_cons_succ, List.getElem_cons_zero, Act.put, List.setIfInBounds_toArray, List.set_cons_zero, List.set_cons_succ])
            refine wpAnyH_take (i := 10) (v := ?_) rfl (by kernel_rfl) (by kernel_rfl) (by kernel_rfl) (fun _ _ _ h => h) (Or.inl ⟨by rfl, ?_⟩) (by assumption) ?_
            rotate_left
            · (intro w hSw; (try dsimp only at hSw); go_simp; (try with_reducible rfl))
            (try simp only [List.getElem_toArray, List.getElem_cons_succ, List.getElem_cons_zero, Act.put, List.setIfInBounds_toArray, List.set_cons_zero, List.set_cons_succ])
            have rb40 := b4.cell 0 _ rfl
            have qb40 := b4.frozen 0
            have rb41 := b4.cell 1 _ rfl
            have qb41 := b4.frozen 1
            have rb42 := b4.cell 2 _ rfl
            have qb42 := b4.frozen 2
            have rb43 := b4.cell 3 _ rfl
            have qb43 := b4.frozen 3
            have rb44 := b4.cell 4 _ rfl
            have qb44 := b4.frozen 4
            have rb45 := b4.cell 5 _ rfl
            have qb45 := b4.frozen 5
            have rb46 := b4.cell 6 _ rfl
            have qb46 := b4.frozen 6
            have rb47 := b4.cell 7 _ rfl
            have qb47 := b4.frozen 7
            refine wpAnyH_ready (rs := [12]) (by kernel_rfl) (by simp) (AllReadyH.cons (o := _) rfl (fun K hK => ?_) AllReadyH.nil)
            go_simp
            clear rb40 qb40
            clear rb41 qb41
            clear rb42 qb42
            clear rb43 qb43
            clear rb44 qb44
            clear rb45 qb45
            clear rb46 qb46
            clear rb47 qb47
            have hg : World.grownBy y60_6 ((((((((y60_6.setCell ⟨y60_1.heap.size, 0, none⟩ (.bool s2)).setCell ⟨y60_1.heap.size, 1, none⟩ (.slice A2 n2 c2)).setCell ⟨y60_1.heap.size, 2, none⟩ (.slice D2 m2 e2)).setCell ⟨y60_1.heap.size, 3, none⟩ (.bool s3)).setCell ⟨y60_1.heap.size, 4, none⟩ (.slice A3 n3 c3)).setCell ⟨y60_1.heap.size, 5, none⟩ (.slice D3 m3 e3)).setCell ⟨y60_1.heap.size, 6, none⟩ (.bool f0)).setCell ⟨y60_1.heap.size, 7, none⟩ (.bool h0)) (some (y60_1.heap.size)) := only_trans (only_trans (only_trans (only_trans (only_trans (only_trans (only_trans (only_setCell _ ⟨y60_1.heap.size, 0, none⟩ (.bool s2)) (only_setCell _ ⟨y60_1.heap.size, 1, none⟩ (.slice A2 n2 c2))) (only_setCell _ ⟨y60_1.heap.size, 2, none⟩ (.slice D2 m2 e2))) (only_setCell _ ⟨y60_1.heap.size, 3, none⟩ (.bool s3))) (only_setCell _ ⟨y60_1.heap.size, 4, none⟩ (.slice A3 n3 c3))) (only_setCell _ ⟨y60_1.heap.size, 5, none⟩ (.slice D3 m3 e3))) (only_setCell _ ⟨y60_1.heap.size, 6, none⟩ (.bool f0))) (only_setCell _ ⟨y60_1.heap.size, 7, none⟩ (.bool h0))
            have hB : Box ((((((((y60_6.setCell ⟨y60_1.heap.size, 0, none⟩ (.bool s2)).setCell ⟨y60_1.heap.size, 1, none⟩ (.slice A2 n2 c2)).setCell ⟨y60_1.heap.size, 2, none⟩ (.slice D2 m2 e2)).setCell ⟨y60_1.heap.size, 3, none⟩ (.bool s3)).setCell ⟨y60_1.heap.size, 4, none⟩ (.slice A3 n3 c3)).setCell ⟨y60_1.heap.size, 5, none⟩ (.slice D3 m3 e3)).setCell ⟨y60_1.heap.size, 6, none⟩ (.bool f0)).setCell ⟨y60_1.heap.size, 7, none⟩ (.bool h0)) (y60_1.heap.size) #[.bool s2, .slice A2 n2 c2, .slice D2 m2 e2, .bool s3, .slice A3 n3 c3, .slice D3 m3 e3, .bool f0, .bool h0] 39 := (Box.step (Box.step (Box.step (Box.step (Box.step (Box.step (Box.step (Box.step b4 0 (.bool s2)) 1 (.slice A2 n2 c2)) 2 (.slice D2 m2 e2)) 3 (.bool s3)) 4 (.slice A3 n3 c3)) 5 (.slice D3 m3 e3)) 6 (.bool f0)) 7 (.bool h0))
            generalize hX : ((((((((y60_6.setCell ⟨y60_1.heap.size, 0, none⟩ (.bool s2)).setCell ⟨y60_1.heap.size, 1, none⟩ (.slice A2 n2 c2)).setCell ⟨y60_1.heap.size, 2, none⟩ (.slice D2 m2 e2)).setCell ⟨y60_1.heap.size, 3, none⟩ (.bool s3)).setCell ⟨y60_1.heap.size, 4, none⟩ (.slice A3 n3 c3)).setCell ⟨y60_1.heap.size, 5, none⟩ (.slice D3 m3 e3)).setCell ⟨y60_1.heap.size, 6, none⟩ (.bool f0)).setCell ⟨y60_1.heap.size, 7, none⟩ (.bool h0)) = Y60_7 at hg hB ⊢
            clear hX
            replace j0 := j0.kept b4 (by simp [notInt]) hg
            replace j1 := j1.kept b4 (by simp [notInt]) hg
            replace b4 := hB
            replace hG := below_only hG hg (by omega) sG
            replace sG := hG.size
            clear hg hB
            refine hK.out _ _ ⟨(b1.below hG).cell 0 _ rfl, (b1.below hG).cell 1 _ rfl, (b1.below hG).cell 2 _ rfl, (b1.below hG).cell 3 _ rfl, (b1.below hG).cell 4 _ rfl, (b1.below hG).cell 5 _ rfl, (b1.below hG).cell 6 _ rfl, (b1.below hG).cell 7 _ rfl⟩ (fun hHeld => ?_)
            clear hK K
            (try simp only [List.getElem_toArray, List.getElem_cons_succ, List.getElem_cons_zero, Act.put, List.setIfInBounds_toArray, List.set_cons_zero, List.set_cons_succ])
            refine wpAnyH_done (by kernel_rfl) ?_ _
            refine NoPanic.normal ?_
            go_wp2_with fail
            go_meet
            exact ⟨y60_1.heap.size, s2, A2, n2, c2, D2, m2, e2, s3, A3, n3, c3, D3, m3, e3, rfl, j0, j1, b4, (by omega), hG⟩
        · go_simp
          obtain ⟨y60_8, hV, b4, hb9, szy60_8⟩ := boxes1 v60 #[.bool false, .slice none 0 0, .slice none 0 0, .bool false, .slice none 0 0, .slice none 0 0, .bool false, .bool false] 39
          rw [hV]
          clear hV
          have gly60_8 : wc.heap.size ≤ v60.heap.size := sG
          replace szy60_8 : v60.heap.size < y60_8.heap.size := by omega
          replace hG := hG.trans (hb9.mono sG)
          replace sG := hG.size
          clear hb9
          refine hK.out _ _ ⟨(b1.below hG).cell 0 _ rfl, (b1.below hG).cell 1 _ rfl, (b1.below hG).cell 2 _ rfl, (b1.below hG).cell 3 _ rfl, (b1.below hG).cell 4 _ rfl, (b1.below hG).cell 5 _ rfl, (b1.below hG).cell 6 _ rfl, (b1.below hG).cell 7 _ rfl⟩ (fun hHeld => ?_)
          clear hK K
          (try simp only [List.getElem_toArray, List.getElem_cons_succ, List.getElem_cons_zero, Act.put, List.setIfInBounds_toArray, List.set_cons_zero, List.set_cons_succ])
          refine wpAnyH_ready (rs := [2]) (by kernel_rfl) (by simp) (AllReadyH.cons (o := _) rfl (fun K hK => ?_) AllReadyH.nil)
          go_simp
          go_at_call 20
          refine (refq_v (raw_rq (L := 4) (r0.below hG) (r1.below hG) l0 l1) (by decide)).mono ?_
          rintro e y60_9 ⟨s2, A2, n2, c2, D2, m2, e2, rfl, j0, hb9⟩
          have szy60_9 := hb9.size
          replace b4 := b4.below hb9
          replace hG := hG.trans (hb9.mono sG)
          replace sG := hG.size
          clear hb9
          go_wp2_with fail
          refine hK.out _ _ ⟨(b1.below hG).cell 0 _ rfl, (b1.below hG).cell 1 _ rfl, (b1.below hG).cell 2 _ rfl, (b1.below hG).cell 3 _ rfl, (b1.below hG).cell 4 _ rfl, (b1.below hG).cell 5 _ rfl, (b1.below hG).cell 6 _ rfl, (b1.below hG).cell 7 _ rfl⟩ (fun hHeld => ?_)
          clear hK K
          (try simp only [List.getElem_toArray, List.getElem_cons_succ, List.getElem_cons_zero, Act.put, List.setIfInBounds_toArray, List.set_cons_zero, List.set_cons_succ])
          refine wpAnyH_ready (rs := [5]) (by kernel_rfl) (by simp) (AllReadyH.cons (o := _) rfl (fun K hK => ?_) AllReadyH.nil)
          go_simp
          go_at_call 20
          refine (refq_v (raw_rq (L := 4) (r2.below hG) (r3.below hG) l2 l3) (by decide)).mono ?_
          rintro e y60_10 ⟨s3, A3, n3, c3, D3, m3, e3, rfl, j1, hb9⟩
          have szy60_10 := hb9.size
          replace j0 := j0.below hb9
          replace b4 := b4.below hb9
          replace hG := hG.trans (hb9.mono sG)
          replace sG := hG.size
          clear hb9
          go_wp2_with fail
          refine hK.out _ _ ⟨(b1.below hG).cell 0 _ rfl, (b1.below hG).cell 1 _ rfl, (b1.below hG).cell 2 _ rfl, (b1.below hG).cell 3 _ rfl, (b1.below hG).cell 4 _ rfl, (b1.below hG).cell 5 _ rfl, (b1.below hG).cell 6 _ rfl, (b1.below hG).cell 7 _ rfl⟩ (fun hHeld => ?_)
          clear hK K
          (try simp only [List.getElem_toArray, List.getElem_cons_succ, List.getElem_cons_zero, Act.put, List.setIfInBounds_toArray, List.set_cons_zero, List.set_cons_succ])
          refine wpAnyH_take (i := 10) (v := ?_) rfl (by kernel_rfl) (by kernel_rfl) (by kernel_rfl) (fun _ _ _ h => h) (Or.inl ⟨by rfl, ?_⟩) (by assumption) ?_
          rotate_left
          · (intro w hSw; (try dsimp only at hSw); go_simp; (try with_reducible rfl))
          (try simp only [List.getElem_toArray, List.getElem_cons_succ, List.getElem_cons_zero, Act.put, List.setIfInBounds_toArray, List.set_cons_zero, List.set_cons_succ])
          have rb40 := b4.cell 0 _ rfl
          have qb40 := b4.frozen 0
          have rb41 := b4.cell 1 _ rfl
          have qb41 := b4.frozen 1
          have rb42 := b4.cell 2 _ rfl
          have qb42 := b4.frozen 2
          have rb43 := b4.cell 3 _ rfl
          have qb43 := b4.frozen 3
          have rb44 := b4.cell 4 _ rfl
          have qb44 := b4.frozen 4
          have rb45 := b4.cell 5 _ rfl
          have qb45 := b4.frozen 5
          have rb46 := b4.cell 6 _ rfl
          have qb46 := b4.frozen 6
          have rb47 := b4.cell 7 _ rfl
          have qb47 := b4.frozen 7
          refine wpAnyH_ready (rs := [12]) (by kernel_rfl) (by simp) (AllReadyH.cons (o := _) rfl (fun K hK => ?_) AllReadyH.nil)
          go_simp
          clear rb40 qb40
          clear rb41 qb41
          clear rb42 qb42
          clear rb43 qb43
          clear rb44 qb44
          clear rb45 qb45
          clear rb46 qb46
          clear rb47 qb47
          have hg : World.grownBy y60_10 ((((((((y60_10.setCell ⟨v60.heap.size, 0, none⟩ (.bool s2)).setCell ⟨v60.heap.size, 1, none⟩ (.slice A2 n2 c2)).setCell ⟨v60.heap.size, 2, none⟩ (.slice D2 m2 e2)).setCell ⟨v60.heap.size, 3, none⟩ (.bool s3)).setCell ⟨v60.heap.size, 4, none⟩ (.slice A3 n3 c3)).setCell ⟨v60.heap.size, 5, none⟩ (.slice D3 m3 e3)).setCell ⟨v60.heap.size, 6, none⟩ (.bool f0)).setCell ⟨v60.heap.size, 7, none⟩ (.bool h0)) (some (v60.heap.size)) := only_trans (only_trans (only_trans (only_trans (only_trans (only_trans (only_trans (only_setCell _ ⟨v60.heap.size, 0, none⟩ (.bool s2)) (only_setCell _ ⟨v60.heap.size, 1, none⟩ (.slice A2 n2 c2))) (only_setCell _ ⟨v60.heap.size, 2, none⟩ (.slice D2 m2 e2))) (only_setCell _ ⟨v60.heap.size, 3, none⟩ (.bool s3))) (only_setCell _ ⟨v60.heap.size, 4, none⟩ (.slice A3 n3 c3))) (only_setCell _ ⟨v60.heap.size, 5, none⟩ (.slice D3 m3 e3))) (only_setCell _ ⟨v60.heap.size, 6, none⟩ (.bool f0))) (only_setCell _ ⟨v60.heap.size, 7, none⟩ (.bool h0))
          have hB : Box ((((((((y60_10.setCell ⟨v60.heap.size, 0, none⟩ (.bool s2)).setCell ⟨v60.heap.size, 1, none⟩ (.slice A2 n2 c2)).setCell ⟨v60.heap.size, 2, none⟩ (.slice D2 m2 e2)).setCell ⟨v60.heap.size, 3, none⟩ (.bool s3)).setCell ⟨v60.heap.size, 4, none⟩ (.slice A3 n3 c3)).setCell ⟨v60.heap.size, 5, none⟩ (.slice D3 m3 e3)).setCell ⟨v60.heap.size, 6, none⟩ (.bool f0)).setCell ⟨v60.heap.size, 7, none⟩ (.bool h0)) (v60.heap.size) #[.bool s2, .slice A2 n2 c2, .slice D2 m2 e2, .bool s3, .slice A3 n3 c3, .slice D3 m3 e3, .bool f0, .bool h0] 39 := (Box.step (Box.step (Box.step (Box.step (Box.step (Box.step (Box.step (Box.step b4 0 (.bool s2)) 1 (.slice A2 n2 c2)) 2 (.slice D2 m2 e2)) 3 (.bool s3)) 4 (.slice A3 n3 c3)) 5 (.slice D3 m3 e3)) 6 (.bool f0)) 7 (.bool h0))
          generalize hX : ((((((((y60_10.setCell ⟨v60.heap.size, 0, none⟩ (.bool s2)).setCell ⟨v60.heap.size, 1, none⟩ (.slice A2 n2 c2)).setCell ⟨v60.heap.size, 2, none⟩ (.slice D2 m2 e2)).setCell ⟨v60.heap.size, 3, none⟩ (.bool s3)).setCell ⟨v60.heap.size, 4, none⟩ (.slice A3 n3 c3)).setCell ⟨v60.heap.size, 5, none⟩ (.slice D3 m3 e3)).setCell ⟨v60.heap.size, 6, none⟩ (.bool f0)).setCell ⟨v60.heap.size, 7, none⟩ (.bool h0)) = Y60_11 at hg hB ⊢
          clear hX
          replace j0 := j0.kept b4 (by simp [notInt]) hg
          replace j1 := j1.kept b4 (by simp [notInt]) hg
          replace b4 := hB
          replace hG := below_only hG hg (by omega) sG
          replace sG := hG.size
          clear hg hB
          refine hK.out _ _ ⟨(b1.below hG).cell 0 _ rfl, (b1.below hG).cell 1 _ rfl, (b1.below hG).cell 2 _ rfl, (b1.below hG).cell 3 _ rfl, (b1.below hG).cell 4 _ rfl, (b1.below hG).cell 5 _ rfl, (b1.below hG).cell 6 _ rfl, (b1.below hG).cell 7 _ rfl⟩ (fun hHeld => ?_)
          clear hK K
          (try simp only [List.getElem_toArray, List.getElem_cons_succ, List.getElem_cons_zero, Act.put, List.setIfInBounds_toArray, List.set_cons_zero, List.set_cons_succ])
          refine wpAnyH_done (by kernel_rfl) ?_ _
          refine NoPanic.normal ?_
          go_wp2_with fail
          go_meet
          exact ⟨v60.heap.size, s2, A2, n2, c2, D2, m2, e2, s3, A3, n3, c3, D3, m3, e3, rfl, j0, j1, b4, (by omega), hG⟩
      obtain ⟨g60_0, s2, A2, n2, c2, D2, m2, e2, s3, A3, n3, c3, D3, m3, e3, rfl, j0, j1, b4, glg60_0, hG⟩ := hcut
      replace r0 := r0.below hG
      replace r1 := r1.below hG
      replace r2 := r2.below hG
      replace r3 := r3.below hG
      replace b1 := b1.below hG
      replace b2 := b2.below hG
      replace H0 := H0.trans (hG.mono H0.size)
      clear hG
      go_wp2_with fail
      cases f0
      · cases h0
        · rcases rsg_tri (rq s0 da db) (rq s1 dc de) with ⟨hs, hd⟩ | ⟨hs, hd⟩ | ⟨hs, hd⟩
          · have HD := Lib.hid (show decide (rq s0 da db < rq s1 dc de) = true from decide_eq_true hd)
            have HS := Lib.hid hs
            clear hs hd
            have hD := drawn_below wc
            replace r0 := r0.below hD
            replace r1 := r1.below hD
            replace r2 := r2.below hD
            replace r3 := r3.below hD
            replace j0 := j0.below hD
            replace j1 := j1.below hD
            replace b1 := b1.below hD
            replace b2 := b2.below hD
            replace b4 := b4.below hD
            replace H0 := H0.trans (hD.mono H0.size)
            clear hD
            refine wp_region_noPanic ?_
            refine wp_region_held_drew (S := (fun V => V.cell? ⟨w.heap.size, 0, none⟩ = some (.bool s0) ∧ V.cell? ⟨w.heap.size, 1, none⟩ = some (.slice A0 n0 c0) ∧ V.cell? ⟨w.heap.size, 2, none⟩ = some (.slice D0 m0 e0) ∧ V.cell? ⟨w.heap.size, 3, none⟩ = some (.bool s1) ∧ V.cell? ⟨w.heap.size, 4, none⟩ = some (.slice A1 n1 c1) ∧ V.cell? ⟨w.heap.size, 5, none⟩ = some (.slice D1 m1 e1) ∧ V.cell? ⟨w.heap.size, 6, none⟩ = some (.bool false) ∧ V.cell? ⟨w.heap.size, 7, none⟩ = some (.bool false) ∧ V.cell? ⟨g60_0, 0, none⟩ = some (.bool s2) ∧ V.cell? ⟨g60_0, 1, none⟩ = some (.slice A2 n2 c2) ∧ V.cell? ⟨g60_0, 2, none⟩ = some (.slice D2 m2 e2) ∧ V.cell? ⟨g60_0, 3, none⟩ = some (.bool s3) ∧ V.cell? ⟨g60_0, 4, none⟩ = some (.slice A3 n3 c3) ∧ V.cell? ⟨g60_0, 5, none⟩ = some (.slice D3 m3 e3) ∧ V.cell? ⟨g60_0, 6, none⟩ = some (.bool false) ∧ V.cell? ⟨g60_0, 7, none⟩ = some (.bool false))) (by kernel_rfl) ⟨b1.cell 0 _ rfl, b1.cell 1 _ rfl, b1.cell 2 _ rfl, b1.cell 3 _ rfl, b1.cell 4 _ rfl, b1.cell 5 _ rfl, b1.cell 6 _ rfl, b1.cell 7 _ rfl, b4.cell 0 _ rfl, b4.cell 1 _ rfl, b4.cell 2 _ rfl, b4.cell 3 _ rfl, b4.cell 4 _ rfl, b4.cell 5 _ rfl, b4.cell 6 _ rfl, b4.cell 7 _ rfl⟩ (fun hHeld => ?_)
            generalize wc.drew = v62 at H0 hHeld r0 r1 r2 r3 j0 j1 b1 b2 b4 ⊢
            refine wpAnyH_take (i := 0) (v := ?_) rfl (by kernel_rfl) (by kernel_rfl) (by kernel_rfl) (fun _ _ _ h => h) (Or.inl ⟨by rfl, ?_⟩) (by assumption) ?_
            rotate_left
            · (intro w hSw; (try dsimp only at hSw); go_simp; (try with_reducible rfl))
            (try simp only [List.getElem_toArray, List.getElem_cons_zero, Act.put, List.setIfInBounds_toArray, List.set_cons_zero, List.set_cons_succ])
            refine wpAnyH_take (i := 1) (v := ?_) rfl (by kernel_rfl) (by kernel_rfl) (by kernel_rfl) (fun _ _ _ h => h) (Or.inl ⟨by rfl, ?_⟩) (by assumption) ?_
            rotate_left
            · (intro w hSw; (try dsimp only at hSw); go_simp; (try with_reducible rfl))
            (try simp only [List.getElem_toArray, List.getElem_cons_succ, List.getElem_cons_zero, Act.put, List.setIfInBounds_toArray, List.set_cons_zero, List.set_cons_succ])
            refine wpAnyH_take (i := 2) (v := ?_) rfl (by kernel_rfl) (by kernel_rfl) (by kernel_rfl) (fun _ _ _ h => h) (Or.inl ⟨by rfl, ?_⟩) (by assumption) ?_
            rotate_left
            · (intro w hSw; (try dsimp only at hSw); go_simp; (try with_reducible rfl))
            (try simp only [List.getElem_toArray, List.getElem_cons_succ, List.getElem_cons_zero, Act.put, List.setIfInBounds_toArray, List.set_cons_zero, List.set_cons_succ])
            refine wpAnyH_take (i := 3) (v := ?_) rfl (by kernel_rfl) (by kernel_rfl) (by kernel_rfl) (fun _ _ _ h => h) (Or.inl ⟨by rfl, ?_⟩) (by assumption) ?_
            rotate_left
            · (intro w hSw; (try dsimp only at hSw); go_simp; (try with_reducible rfl))
            (try simp only [List.getElem_toArray, List.getElem_cons_succ, List.getElem_cons_zero, Act.put, List.setIfInBounds_toArray, List.set_cons_zero, List.set_cons_succ])
            refine wpAnyH_take (i := 4) (v := ?_) rfl (by kernel_rfl) (by kernel_rfl) (by kernel_rfl) (fun _ _ _ h => h) (Or.inl ⟨by rfl, ?_⟩) (by assumption) ?_
            rotate_left
            · (intro w hSw; (try dsimp only at hSw); go_simp; (try with_reducible rfl))
            (try simp only [List.getElem_toArray, List.getElem_cons_succ, List.getElem_cons_zero, Act.put, List.setIfInBounds_toArray, List.set_cons_zero, List.set_cons_succ])
            refine wpAnyH_take (i := 5) (v := ?_) rfl (by kernel_rfl) (by kernel_rfl) (by kernel_rfl) (fun _ _ _ h => h) (Or.inl ⟨by rfl, ?_⟩) (by assumption) ?_
            rotate_left
            · (intro w hSw; (try dsimp only at hSw); go_simp; (try with_reducible rfl))
            (try simp only [List.getElem_toArray, List.getElem_cons_succ, List.getElem_cons_zero, Act.put, List.setIfInBounds_toArray, List.set_cons_zero, List.set_cons_succ])
            refine wpAnyH_take (i := 6) (v := ?_) rfl (by kernel_rfl) (by kernel_rfl) (by kernel_rfl) (fun _ _ _ h => h) (Or.inl ⟨by rfl, ?_⟩) (by assumption) ?_
            rotate_left
            · (intro w hSw; (try dsimp only at hSw); go_simp; (try with_reducible rfl))
            (try simp only [List.getElem_toArray, List.getElem_cons_succ, List.getElem_cons_zero, Act.put, List.setIfInBounds_toArray, List.set_cons_zero, List.set_cons_succ])
            refine wpAnyH_take (i := 7) (v := ?_) rfl (by kernel_rfl) (by kernel_rfl) (by kernel_rfl) (fun _ _ _ h => h) (Or.inl ⟨by rfl, ?_⟩) (by assumption) ?_
            rotate_left
            · (intro w hSw; (try dsimp only at hSw); go_simp; (try with_reducible rfl))
            (try simp only [List.getElem_toArray, List.getElem_cons_succ, List.getElem_cons_zero, Act.put, List.setIfInBounds_toArray, List.set_cons_zero, List.set_cons_succ])
            refine wpAnyH_take (i := 8) (v := ?_) rfl (by kernel_rfl) (by kernel_rfl) (by kernel_rfl) (fun _ _ _ h => h) (Or.inl ⟨by rfl, ?_⟩) (by assumption) ?_
            rotate_left
            · (intro w hSw; (try dsimp only at hSw); go_simp; (try with_reducible rfl))
            (try simp only [List.getElem_toArray, List.getElem_cons_succ, List.getElem_cons_zero, Act.put, List.setIfInBounds_toArray, List.set_cons_zero, List.set_cons_succ])
            refine wpAnyH_take (i := 10) (v := ?_) rfl (by kernel_rfl) (by kernel_rfl) (by kernel_rfl) (fun _ _ _ h => h) (Or.inl ⟨by rfl, ?_⟩) (by assumption) ?_
            rotate_left
            · (intro w hSw; (try dsimp only at hSw); go_simp; (try with_reducible rfl))
            (try simp only [List.getElem_toArray, List.getElem_cons_succ, List.getElem_cons_zero, Act.put, List.setIfInBounds_toArray, List.set_cons_zero, List.set_cons_succ])
            refine wpAnyH_take (i := 9) (v := ?_) rfl (by kernel_rfl) (by kernel_rfl) (by kernel_rfl) (fun _ _ _ h => h) (Or.inl ⟨by rfl, ?_⟩) (by assumption) ?_
            rotate_left
            · (intro w hSw; (try dsimp only at hSw); go_simp; (try with_reducible rfl))
            (try simp only [List.getElem_toArray, List.getElem_cons_succ, List.getElem_cons_zero, Act.put, List.setIfInBounds_toArray, List.set_cons_zero, List.set_cons_succ])
            refine wpAnyH_take (i := 11) (v := ?_) rfl (by kernel_rfl) (by kernel_rfl) (by kernel_rfl) (fun _ _ _ h => h) (Or.inl ⟨by rfl, ?_⟩) (by assumption) ?_
            rotate_left
            · (intro w hSw; (try dsimp only at hSw); go_simp; (try with_reducible rfl))
            (try simp only [List.getElem_toArray, List.getElem_cons_succ, List.getElem_cons_zero, Act.put, List.setIfInBounds_toArray, List.set_cons_zero, List.set_cons_succ])
            refine wpAnyH_ready (rs := [12]) (by kernel_rfl) (by simp) (AllReadyH.cons (o := _) rfl (fun K hK => ?_) AllReadyH.nil)
            go_simp
            go_at_call 43
            refine (nqc_v j0 j1 (by decide) (by decide) HS.out).mono ?_
            rintro e w63 ⟨rfl, hb⟩
            replace r0 := r0.below hb
            replace r1 := r1.below hb
            replace r2 := r2.below hb
            replace r3 := r3.below hb
            replace j0 := j0.below hb
            replace j1 := j1.below hb
            replace b1 := b1.below hb
            replace b2 := b2.below hb
            replace b4 := b4.below hb
            replace H0 := H0.trans (hb.mono H0.size)
            clear hb
            go_wp2_with fail
            refine hK.out _ _ ⟨b1.cell 0 _ rfl, b1.cell 1 _ rfl, b1.cell 2 _ rfl, b1.cell 3 _ rfl, b1.cell 4 _ rfl, b1.cell 5 _ rfl, b1.cell 6 _ rfl, b1.cell 7 _ rfl, b4.cell 0 _ rfl, b4.cell 1 _ rfl, b4.cell 2 _ rfl, b4.cell 3 _ rfl, b4.cell 4 _ rfl, b4.cell 5 _ rfl, b4.cell 6 _ rfl, b4.cell 7 _ rfl⟩ (fun hHeld => ?_)
            clear hK K
            (try simp only [List.getElem_toArray, List.getElem_cons_succ, List.getElem_cons_zero, Act.put, List.setIfInBounds_toArray, List.set_cons_zero, List.set_cons_succ])
            refine wpAnyH_take (i := 13) (v := ?_) rfl (by kernel_rfl) (by kernel_rfl) (by kernel_rfl) (fun _ _ _ h => h) (Or.inl ⟨by rfl, ?_⟩) (by assumption) ?_
            rotate_left
            · (intro w hSw; (try dsimp only at hSw); go_simp; (try with_reducible rfl))
            (try simp only [List.getElem_toArray, List.getElem_cons_succ, List.getElem_cons_zero, Act.put, List.setIfInBounds_toArray, List.set_cons_zero, List.set_cons_succ])
            refine wpAnyH_take (i := 14) (v := ?_) rfl (by kernel_rfl) (by kernel_rfl) (by kernel_rfl) (fun _ _ _ h => h) (Or.inl ⟨by rfl, ?_⟩) (by assumption) ?_
            rotate_left
            · (intro w hSw; (try dsimp only at hSw); go_simp; (try with_reducible rfl))
            (try simp only [List.getElem_toArray, List.getElem_cons_succ, List.getElem_cons_zero, Act.put, List.setIfInBounds_toArray, List.set_cons_zero, List.set_cons_succ])
            have cb20 := b2.cell 0 _ rfl
            have yb20 := b2.frozen 0
            have cb21 := b2.cell 1 _ rfl
            have yb21 := b2.frozen 1
            have cb22 := b2.cell 2 _ rfl
            have yb22 := b2.frozen 2
            have cb23 := b2.cell 3 _ rfl
            have yb23 := b2.frozen 3
            have cb24 := b2.cell 4 _ rfl
            have yb24 := b2.frozen 4
            have cb25 := b2.cell 5 _ rfl
            have yb25 := b2.frozen 5
            have cb26 := b2.cell 6 _ rfl
            have yb26 := b2.frozen 6
            have cb27 := b2.cell 7 _ rfl
            have yb27 := b2.frozen 7
            refine wpAnyH_ready (rs := [15]) (by kernel_rfl) (by simp) (AllReadyH.cons (o := _) rfl (fun K hK => ?_) AllReadyH.nil)
            go_simp
            clear cb20 yb20 cb21 yb21 cb22 yb22 cb23 yb23 cb24 yb24 cb25 yb25 cb26 yb26 cb27 yb27
            have hg : World.grownBy w63 ((((((((w63.setCell ⟨w.heap.size + 1, 0, none⟩ (.bool s2)).setCell ⟨w.heap.size + 1, 1, none⟩ (.slice A2 n2 c2)).setCell ⟨w.heap.size + 1, 2, none⟩ (.slice D2 m2 e2)).setCell ⟨w.heap.size + 1, 3, none⟩ (.bool s3)).setCell ⟨w.heap.size + 1, 4, none⟩ (.slice A3 n3 c3)).setCell ⟨w.heap.size + 1, 5, none⟩ (.slice D3 m3 e3)).setCell ⟨w.heap.size + 1, 6, none⟩ (.bool false)).setCell ⟨w.heap.size + 1, 7, none⟩ (.bool false)) (some (w.heap.size + 1)) := only_trans (only_trans (only_trans (only_trans (only_trans (only_trans (only_trans (only_setCell _ ⟨w.heap.size + 1, 0, none⟩ (.bool s2)) (only_setCell _ ⟨w.heap.size + 1, 1, none⟩ (.slice A2 n2 c2))) (only_setCell _ ⟨w.heap.size + 1, 2, none⟩ (.slice D2 m2 e2))) (only_setCell _ ⟨w.heap.size + 1, 3, none⟩ (.bool s3))) (only_setCell _ ⟨w.heap.size + 1, 4, none⟩ (.slice A3 n3 c3))) (only_setCell _ ⟨w.heap.size + 1, 5, none⟩ (.slice D3 m3 e3))) (only_setCell _ ⟨w.heap.size + 1, 6, none⟩ (.bool false))) (only_setCell _ ⟨w.heap.size + 1, 7, none⟩ (.bool false))
            have hB : Box ((((((((w63.setCell ⟨w.heap.size + 1, 0, none⟩ (.bool s2)).setCell ⟨w.heap.size + 1, 1, none⟩ (.slice A2 n2 c2)).setCell ⟨w.heap.size + 1, 2, none⟩ (.slice D2 m2 e2)).setCell ⟨w.heap.size + 1, 3, none⟩ (.bool s3)).setCell ⟨w.heap.size + 1, 4, none⟩ (.slice A3 n3 c3)).setCell ⟨w.heap.size + 1, 5, none⟩ (.slice D3 m3 e3)).setCell ⟨w.heap.size + 1, 6, none⟩ (.bool false)).setCell ⟨w.heap.size + 1, 7, none⟩ (.bool false)) (w.heap.size + 1) #[.bool s2, .slice A2 n2 c2, .slice D2 m2 e2, .bool s3, .slice A3 n3 c3, .slice D3 m3 e3, .bool false, .bool false] 39 := (Box.step (Box.step (Box.step (Box.step (Box.step (Box.step (Box.step (Box.step b2 0 (.bool s2)) 1 (.slice A2 n2 c2)) 2 (.slice D2 m2 e2)) 3 (.bool s3)) 4 (.slice A3 n3 c3)) 5 (.slice D3 m3 e3)) 6 (.bool false)) 7 (.bool false))
            generalize hX : ((((((((w63.setCell ⟨w.heap.size + 1, 0, none⟩ (.bool s2)).setCell ⟨w.heap.size + 1, 1, none⟩ (.slice A2 n2 c2)).setCell ⟨w.heap.size + 1, 2, none⟩ (.slice D2 m2 e2)).setCell ⟨w.heap.size + 1, 3, none⟩ (.bool s3)).setCell ⟨w.heap.size + 1, 4, none⟩ (.slice A3 n3 c3)).setCell ⟨w.heap.size + 1, 5, none⟩ (.slice D3 m3 e3)).setCell ⟨w.heap.size + 1, 6, none⟩ (.bool false)).setCell ⟨w.heap.size + 1, 7, none⟩ (.bool false)) = X64 at hg hB ⊢
            clear hX
            replace r0 := r0.kept b2 (by simp [notInt]) hg
            replace r1 := r1.kept b2 (by simp [notInt]) hg
            replace r2 := r2.kept b2 (by simp [notInt]) hg
            replace r3 := r3.kept b2 (by simp [notInt]) hg
            replace j0 := j0.kept b2 (by simp [notInt]) hg
            replace j1 := j1.kept b2 (by simp [notInt]) hg
            replace b1 := b1.other hg (by omega)
            replace b4 := b4.other hg (by omega)
            replace b2 := hB
            replace H0 := below_only H0 hg (by omega) H0.size
            clear hg hB
            refine hK.out _ _ ⟨b1.cell 0 _ rfl, b1.cell 1 _ rfl, b1.cell 2 _ rfl, b1.cell 3 _ rfl, b1.cell 4 _ rfl, b1.cell 5 _ rfl, b1.cell 6 _ rfl, b1.cell 7 _ rfl, b4.cell 0 _ rfl, b4.cell 1 _ rfl, b4.cell 2 _ rfl, b4.cell 3 _ rfl, b4.cell 4 _ rfl, b4.cell 5 _ rfl, b4.cell 6 _ rfl, b4.cell 7 _ rfl⟩ (fun hHeld => ?_)
            clear hK K
            (try simp only [List.getElem_toArray, List.getElem_cons_succ, List.getElem_cons_zero, Act.put, List.setIfInBounds_toArray, List.set_cons_zero, List.set_cons_succ])
            refine wpAnyH_take (i := 16) (v := ?_) rfl (by kernel_rfl) (by kernel_rfl) (by kernel_rfl) (fun _ _ _ h => h) (Or.inl ⟨by rfl, ?_⟩) (by assumption) ?_
            rotate_left
            · (intro w hSw; (try dsimp only at hSw); go_simp; (try with_reducible rfl))
            (try simp only [List.getElem_toArray, List.getElem_cons_succ, List.getElem_cons_zero, Act.put, List.setIfInBounds_toArray, List.set_cons_zero, List.set_cons_succ])
            refine wpAnyH_done (by kernel_rfl) ?_ _
            refine NoPanic.normal ?_
            go_wp2_with fail
            refine bodyPost_ret (ret_s6b rfl rfl b2) rfl ?_
            exact ⟨by unfold ReadQ; exact ⟨_, _, _, _, _, _, _, _, _, _, _, _, _, _, _, _, by rw [HO.out, HD.out]; rfl, fun _ => ⟨.inl ⟨rfl, _, rfl, j0⟩, .inl ⟨rfl, _, rfl, j1⟩⟩⟩, H0⟩
          · have HD := Lib.hid (show decide (rq s0 da db < rq s1 dc de) = false from decide_eq_false (by grind))
            have HS := Lib.hid hs
            clear hs hd
            have hD := drawn_below wc
            replace r0 := r0.below hD
            replace r1 := r1.below hD
            replace r2 := r2.below hD
            replace r3 := r3.below hD
            replace j0 := j0.below hD
            replace j1 := j1.below hD
            replace b1 := b1.below hD
            replace b2 := b2.below hD
            replace b4 := b4.below hD
            replace H0 := H0.trans (hD.mono H0.size)
            clear hD
            refine wp_region_noPanic ?_
            refine wp_region_held_drew (S := (fun V => V.cell? ⟨w.heap.size, 0, none⟩ = some (.bool s0) ∧ V.cell? ⟨w.heap.size, 1, none⟩ = some (.slice A0 n0 c0) ∧ V.cell? ⟨w.heap.size, 2, none⟩ = some (.slice D0 m0 e0) ∧ V.cell? ⟨w.heap.size, 3, none⟩ = some (.bool s1) ∧ V.cell? ⟨w.heap.size, 4, none⟩ = some (.slice A1 n1 c1) ∧ V.cell? ⟨w.heap.size, 5, none⟩ = some (.slice D1 m1 e1) ∧ V.cell? ⟨w.heap.size, 6, none⟩ = some (.bool false) ∧ V.cell? ⟨w.heap.size, 7, none⟩ = some (.bool false) ∧ V.cell? ⟨g60_0, 0, none⟩ = some (.bool s2) ∧ V.cell? ⟨g60_0, 1, none⟩ = some (.slice A2 n2 c2) ∧ V.cell? ⟨g60_0, 2, none⟩ = some (.slice D2 m2 e2) ∧ V.cell? ⟨g60_0, 3, none⟩ = some (.bool s3) ∧ V.cell? ⟨g60_0, 4, none⟩ = some (.slice A3 n3 c3) ∧ V.cell? ⟨g60_0, 5, none⟩ = some (.slice D3 m3 e3) ∧ V.cell? ⟨g60_0, 6, none⟩ = some (.bool false) ∧ V.cell? ⟨g60_0, 7, none⟩ = some (.bool false))) (by kernel_rfl) ⟨b1.cell 0 _ rfl, b1.cell 1 _ rfl, b1.cell 2 _ rfl, b1.cell 3 _ rfl, b1.cell 4 _ rfl, b1.cell 5 _ rfl, b1.cell 6 _ rfl, b1.cell 7 _ rfl, b4.cell 0 _ rfl, b4.cell 1 _ rfl, b4.cell 2 _ rfl, b4.cell 3 _ rfl, b4.cell 4 _ rfl, b4.cell 5 _ rfl, b4.cell 6 _ rfl, b4.cell 7 _ rfl⟩ (fun hHeld => ?_)
            generalize wc.drew = v62 at H0 hHeld r0 r1 r2 r3 j0 j1 b1 b2 b4 ⊢
            refine wpAnyH_take (i := 0) (v := ?_) rfl (by kernel_rfl) (by kernel_rfl) (by kernel_rfl) (fun _ _ _ h => h) (Or.inl ⟨by rfl, ?_⟩) (by assumption) ?_
            rotate_left
            · (intro w hSw; (try dsimp only at hSw); go_simp; (try with_reducible rfl))
            (try simp only [List.getElem_toArray, List.getElem_cons_zero, Act.put, List.setIfInBounds_toArray, List.set_cons_zero, List.set_cons_succ])
            refine wpAnyH_take (i := 1) (v := ?_) rfl (by kernel_rfl) (by kernel_rfl) (by kernel_rfl) (fun _ _ _ h => h) (Or.inl ⟨by rfl, ?_⟩) (by assumption) ?_
            rotate_left
            · (intro w hSw; (try dsimp only at hSw); go_simp; (try with_reducible rfl))
            (try simp only [List.getElem_toArray, List.getElem_cons_succ, List.getElem_cons_zero, Act.put, List.setIfInBounds_toArray, List.set_cons_zero, List.set_cons_succ])
            refine wpAnyH_take (i := 2) (v := ?_) rfl (by kernel_rfl) (by kernel_rfl) (by kernel_rfl) (fun _ _ _ h => h) (Or.inl ⟨by rfl, ?_⟩) (by assumption) ?_
            rotate_left
            · (intro w hSw; (try dsimp only at hSw); go_simp; (try with_reducible rfl))
            (try simp only [List.getElem_toArray, List.getElem_cons_succ, List.getElem_cons_zero, Act.put, List.setIfInBounds_toArray, List.set_cons_zero, List.set_cons_succ])
            refine wpAnyH_take (i := 3) (v := ?_) rfl (by kernel_rfl) (by kernel_rfl) (by kernel_rfl) (fun _ _ _ h => h) (Or.inl ⟨by rfl, ?_⟩) (by assumption) ?_
            rotate_left
            · (intro w hSw; (try dsimp only at hSw); go_simp; (try with_reducible rfl))
            (try simp only [List.getElem_toArray, List.getElem_cons_succ, List.getElem_cons_zero, Act.put, List.setIfInBounds_toArray, List.set_cons_zero, List.set_cons_succ])
            refine wpAnyH_take (i := 4) (v := ?_) rfl (by kernel_rfl) (by kernel_rfl) (by kernel_rfl) (fun _ _ _ h => h) (Or.inl ⟨by rfl, ?_⟩) (by assumption) ?_
            rotate_left
            · (intro w hSw; (try dsimp only at hSw); go_simp; (try with_reducible rfl))
            (try simp only [List.getElem_toArray, List.getElem_cons_succ, List.getElem_cons_zero, Act.put, List.setIfInBounds_toArray, List.set_cons_zero, List.set_cons_succ])
            refine wpAnyH_take (i := 5) (v := ?_) rfl (by kernel_rfl) (by kernel_rfl) (by kernel_rfl) (fun _ _ _ h => h) (Or.inl ⟨by rfl, ?_⟩) (by assumption) ?_
            rotate_left
            · (intro w hSw; (try dsimp only at hSw); go_simp; (try with_reducible rfl))
            (try simp only [List.getElem_toArray, List.getElem_cons_succ, List.getElem_cons_zero, Act.put, List.setIfInBounds_toArray, List.set_cons_zero, List.set_cons_succ])
            refine wpAnyH_take (i := 6) (v := ?_) rfl (by kernel_rfl) (by kernel_rfl) (by kernel_rfl) (fun _ _ _ h => h) (Or.inl ⟨by rfl, ?_⟩) (by assumption) ?_
            rotate_left
            · (intro w hSw; (try dsimp only at hSw); go_simp; (try with_reducible rfl))
            (try simp only [List.getElem_toArray, List.getElem_cons_succ, List.getElem_cons_zero, Act.put, List.setIfInBounds_toArray, List.set_cons_zero, List.set_cons_succ])
            refine wpAnyH_take (i := 7) (v := ?_) rfl (by kernel_rfl) (by kernel_rfl) (by kernel_rfl) (fun _ _ _ h => h) (Or.inl ⟨by rfl, ?_⟩) (by assumption) ?_
            rotate_left
            · (intro w hSw; (try dsimp only at hSw); go_simp; (try with_reducible rfl))
            (try simp only [List.getElem_toArray, List.getElem_cons_succ, List.getElem_cons_zero, Act.put, List.setIfInBounds_toArray, List.set_cons_zero, List.set_cons_succ])
            refine wpAnyH_take (i := 8) (v := ?_) rfl (by kernel_rfl) (by kernel_rfl) (by kernel_rfl) (fun _ _ _ h => h) (Or.inl ⟨by rfl, ?_⟩) (by assumption) ?_
            rotate_left
            · (intro w hSw; (try dsimp only at hSw); go_simp; (try with_reducible rfl))
            (try simp only [List.getElem_toArray, List.getElem_cons_succ, List.getElem_cons_zero, Act.put, List.setIfInBounds_toArray, List.set_cons_zero, List.set_cons_succ])
            refine wpAnyH_take (i := 10) (v := ?_) rfl (by kernel_rfl) (by kernel_rfl) (by kernel_rfl) (fun _ _ _ h => h) (Or.inl ⟨by rfl, ?_⟩) (by assumption) ?_
            rotate_left
            · (intro w hSw; (try dsimp only at hSw); go_simp; (try with_reducible rfl))
            (try simp only [List.getElem_toArray, List.getElem_cons_succ, List.getElem_cons_zero, Act.put, List.setIfInBounds_toArray, List.set_cons_zero, List.set_cons_succ])
            refine wpAnyH_take (i := 9) (v := ?_) rfl (by kernel_rfl) (by kernel_rfl) (by kernel_rfl) (fun _ _ _ h => h) (Or.inl ⟨by rfl, ?_⟩) (by assumption) ?_
            rotate_left
            · (intro w hSw; (try dsimp only at hSw); go_simp; (try with_reducible rfl))
            (try simp only [List.getElem_toArray, List.getElem_cons_succ, List.getElem_cons_zero, Act.put, List.setIfInBounds_toArray, List.set_cons_zero, List.set_cons_succ])
            refine wpAnyH_take (i := 11) (v := ?_) rfl (by kernel_rfl) (by kernel_rfl) (by kernel_rfl) (fun _ _ _ h => h) (Or.inl ⟨by rfl, ?_⟩) (by assumption) ?_
            rotate_left
            · (intro w hSw; (try dsimp only at hSw); go_simp; (try with_reducible rfl))
            (try simp only [List.getElem_toArray, List.getElem_cons_succ, List.getElem_cons_zero, Act.put, List.setIfInBounds_toArray, List.set_cons_zero, List.set_cons_succ])
            refine wpAnyH_ready (rs := [12]) (by kernel_rfl) (by simp) (AllReadyH.cons (o := _) rfl (fun K hK => ?_) AllReadyH.nil)
            go_simp
            go_at_call 43
            refine (nqc_v j0 j1 (by decide) (by decide) HS.out).mono ?_
            rintro e w63 ⟨rfl, hb⟩
            replace r0 := r0.below hb
            replace r1 := r1.below hb
            replace r2 := r2.below hb
            replace r3 := r3.below hb
            replace j0 := j0.below hb
            replace j1 := j1.below hb
            replace b1 := b1.below hb
            replace b2 := b2.below hb
            replace b4 := b4.below hb
            replace H0 := H0.trans (hb.mono H0.size)
            clear hb
            go_wp2_with fail
            refine hK.out _ _ ⟨b1.cell 0 _ rfl, b1.cell 1 _ rfl, b1.cell 2 _ rfl, b1.cell 3 _ rfl, b1.cell 4 _ rfl, b1.cell 5 _ rfl, b1.cell 6 _ rfl, b1.cell 7 _ rfl, b4.cell 0 _ rfl, b4.cell 1 _ rfl, b4.cell 2 _ rfl, b4.cell 3 _ rfl, b4.cell 4 _ rfl, b4.cell 5 _ rfl, b4.cell 6 _ rfl, b4.cell 7 _ rfl⟩ (fun hHeld => ?_)
            clear hK K
            (try simp only [List.getElem_toArray, List.getElem_cons_succ, List.getElem_cons_zero, Act.put, List.setIfInBounds_toArray, List.set_cons_zero, List.set_cons_succ])
            refine wpAnyH_take (i := 13) (v := ?_) rfl (by kernel_rfl) (by kernel_rfl) (by kernel_rfl) (fun _ _ _ h => h) (Or.inl ⟨by rfl, ?_⟩) (by assumption) ?_
            rotate_left
            · (intro w hSw; (try dsimp only at hSw); go_simp; (try with_reducible rfl))
            (try simp only [List.getElem_toArray, List.getElem_cons_succ, List.getElem_cons_zero, Act.put, List.setIfInBounds_toArray, List.set_cons_zero, List.set_cons_succ])
            refine wpAnyH_take (i := 14) (v := ?_) rfl (by kernel_rfl) (by kernel_rfl) (by kernel_rfl) (fun _ _ _ h => h) (Or.inl ⟨by rfl, ?_⟩) (by assumption) ?_
            rotate_left
            · (intro w hSw; (try dsimp only at hSw); go_simp; (try with_reducible rfl))
            (try simp only [List.getElem_toArray, List.getElem_cons_succ, List.getElem_cons_zero, Act.put, List.setIfInBounds_toArray, List.set_cons_zero, List.set_cons_succ])
            have cb20 := b2.cell 0 _ rfl
            have yb20 := b2.frozen 0
            have cb21 := b2.cell 1 _ rfl
            have yb21 := b2.frozen 1
            have cb22 := b2.cell 2 _ rfl
            have yb22 := b2.frozen 2
            have cb23 := b2.cell 3 _ rfl
            have yb23 := b2.frozen 3
            have cb24 := b2.cell 4 _ rfl
            have yb24 := b2.frozen 4
            have cb25 := b2.cell 5 _ rfl
            have yb25 := b2.frozen 5
            have cb26 := b2.cell 6 _ rfl
            have yb26 := b2.frozen 6
            have cb27 := b2.cell 7 _ rfl
            have yb27 := b2.frozen 7
            refine wpAnyH_ready (rs := [15]) (by kernel_rfl) (by simp) (AllReadyH.cons (o := _) rfl (fun K hK => ?_) AllReadyH.nil)
            go_simp
            clear cb20 yb20 cb21 yb21 cb22 yb22 cb23 yb23 cb24 yb24 cb25 yb25 cb26 yb26 cb27 yb27
            have hg : World.grownBy w63 ((((((((w63.setCell ⟨w.heap.size + 1, 0, none⟩ (.bool s2)).setCell ⟨w.heap.size + 1, 1, none⟩ (.slice A2 n2 c2)).setCell ⟨w.heap.size + 1, 2, none⟩ (.slice D2 m2 e2)).setCell ⟨w.heap.size + 1, 3, none⟩ (.bool s3)).setCell ⟨w.heap.size + 1, 4, none⟩ (.slice A3 n3 c3)).setCell ⟨w.heap.size + 1, 5, none⟩ (.slice D3 m3 e3)).setCell ⟨w.heap.size + 1, 6, none⟩ (.bool false)).setCell ⟨w.heap.size + 1, 7, none⟩ (.bool false)) (some (w.heap.size + 1)) := only_trans (only_trans (only_trans (only_trans (only_trans (only_trans (only_trans (only_setCell _ ⟨w.heap.size + 1, 0, none⟩ (.bool s2)) (only_setCell _ ⟨w.heap.size + 1, 1, none⟩ (.slice A2 n2 c2))) (only_setCell _ ⟨w.heap.size + 1, 2, none⟩ (.slice D2 m2 e2))) (only_setCell _ ⟨w.heap.size + 1, 3, none⟩ (.bool s3))) (only_setCell _ ⟨w.heap.size + 1, 4, none⟩ (.slice A3 n3 c3))) (only_setCell _ ⟨w.heap.size + 1, 5, none⟩ (.slice D3 m3 e3))) (only_setCell _ ⟨w.heap.size + 1, 6, none⟩ (.bool false))) (only_setCell _ ⟨w.heap.size + 1, 7, none⟩ (.bool false))
            have hB : Box ((((((((w63.setCell ⟨w.heap.size + 1, 0, none⟩ (.bool s2)).setCell ⟨w.heap.size + 1, 1, none⟩ (.slice A2 n2 c2)).setCell ⟨w.heap.size + 1, 2, none⟩ (.slice D2 m2 e2)).setCell ⟨w.heap.size + 1, 3, none⟩ (.bool s3)).setCell ⟨w.heap.size + 1, 4, none⟩ (.slice A3 n3 c3)).setCell ⟨w.heap.size + 1, 5, none⟩ (.slice D3 m3 e3)).setCell ⟨w.heap.size + 1, 6, none⟩ (.bool false)).setCell ⟨w.heap.size + 1, 7, none⟩ (.bool false)) (w.heap.size + 1) #[.bool s2, .slice A2 n2 c2, .slice D2 m2 e2, .bool s3, .slice A3 n3 c3, .slice D3 m3 e3, .bool false, .bool false] 39 := (Box.step (Box.step (Box.step (Box.step (Box.step (Box.step (Box.step (Box.step b2 0 (.bool s2)) 1 (.slice A2 n2 c2)) 2 (.slice D2 m2 e2)) 3 (.bool s3)) 4 (.slice A3 n3 c3)) 5 (.slice D3 m3 e3)) 6 (.bool false)) 7 (.bool false))
            generalize hX : ((((((((w63.setCell ⟨w.heap.size + 1, 0, none⟩ (.bool s2)).setCell ⟨w.heap.size + 1, 1, none⟩ (.slice A2 n2 c2)).setCell ⟨w.heap.size + 1, 2, none⟩ (.slice D2 m2 e2)).setCell ⟨w.heap.size + 1, 3, none⟩ (.bool s3)).setCell ⟨w.heap.size + 1, 4, none⟩ (.slice A3 n3 c3)).setCell ⟨w.heap.size + 1, 5, none⟩ (.slice D3 m3 e3)).setCell ⟨w.heap.size + 1, 6, none⟩ (.bool false)).setCell ⟨w.heap.size + 1, 7, none⟩ (.bool false)) = X64 at hg hB ⊢
            clear hX
            replace r0 := r0.kept b2 (by simp [notInt]) hg
            replace r1 := r1.kept b2 (by simp [notInt]) hg
            replace r2 := r2.kept b2 (by simp [notInt]) hg
            replace r3 := r3.kept b2 (by simp [notInt]) hg
            replace j0 := j0.kept b2 (by simp [notInt]) hg
            replace j1 := j1.kept b2 (by simp [notInt]) hg
            replace b1 := b1.other hg (by omega)
            replace b4 := b4.other hg (by omega)
            replace b2 := hB
            replace H0 := below_only H0 hg (by omega) H0.size
            clear hg hB
            refine hK.out _ _ ⟨b1.cell 0 _ rfl, b1.cell 1 _ rfl, b1.cell 2 _ rfl, b1.cell 3 _ rfl, b1.cell 4 _ rfl, b1.cell 5 _ rfl, b1.cell 6 _ rfl, b1.cell 7 _ rfl, b4.cell 0 _ rfl, b4.cell 1 _ rfl, b4.cell 2 _ rfl, b4.cell 3 _ rfl, b4.cell 4 _ rfl, b4.cell 5 _ rfl, b4.cell 6 _ rfl, b4.cell 7 _ rfl⟩ (fun hHeld => ?_)
            clear hK K
            (try simp only [List.getElem_toArray, List.getElem_cons_succ, List.getElem_cons_zero, Act.put, List.setIfInBounds_toArray, List.set_cons_zero, List.set_cons_succ])
            refine wpAnyH_take (i := 16) (v := ?_) rfl (by kernel_rfl) (by kernel_rfl) (by kernel_rfl) (fun _ _ _ h => h) (Or.inl ⟨by rfl, ?_⟩) (by assumption) ?_
            rotate_left
            · (intro w hSw; (try dsimp only at hSw); go_simp; (try with_reducible rfl))
            (try simp only [List.getElem_toArray, List.getElem_cons_succ, List.getElem_cons_zero, Act.put, List.setIfInBounds_toArray, List.set_cons_zero, List.set_cons_succ])
            refine wpAnyH_done (by kernel_rfl) ?_ _
            refine NoPanic.normal ?_
            go_wp2_with fail
            refine bodyPost_ret (ret_s6b rfl rfl b2) rfl ?_
            exact ⟨by unfold ReadQ; exact ⟨_, _, _, _, _, _, _, _, _, _, _, _, _, _, _, _, by rw [HO.out, HD.out]; rfl, fun hx => (by rw [HO.out, HD.out] at hx; cases hx)⟩, H0⟩
          · have HD := Lib.hid (show decide (rq s0 da db < rq s1 dc de) = false from decide_eq_false (by grind))
            have HS := Lib.hid hs
            clear hs hd
            have hD := drawn_below wc
            replace r0 := r0.below hD
            replace r1 := r1.below hD
            replace r2 := r2.below hD
            replace r3 := r3.below hD
            replace j0 := j0.below hD
            replace j1 := j1.below hD
            replace b1 := b1.below hD
            replace b2 := b2.below hD
            replace b4 := b4.below hD
            replace H0 := H0.trans (hD.mono H0.size)
            clear hD
            refine wp_region_noPanic ?_
            refine wp_region_held_drew (S := (fun V => V.cell? ⟨w.heap.size, 0, none⟩ = some (.bool s0) ∧ V.cell? ⟨w.heap.size, 1, none⟩ = some (.slice A0 n0 c0) ∧ V.cell? ⟨w.heap.size, 2, none⟩ = some (.slice D0 m0 e0) ∧ V.cell? ⟨w.heap.size, 3, none⟩ = some (.bool s1) ∧ V.cell? ⟨w.heap.size, 4, none⟩ = some (.slice A1 n1 c1) ∧ V.cell? ⟨w.heap.size, 5, none⟩ = some (.slice D1 m1 e1) ∧ V.cell? ⟨w.heap.size, 6, none⟩ = some (.bool false) ∧ V.cell? ⟨w.heap.size, 7, none⟩ = some (.bool false) ∧ V.cell? ⟨g60_0, 0, none⟩ = some (.bool s2) ∧ V.cell? ⟨g60_0, 1, none⟩ = some (.slice A2 n2 c2) ∧ V.cell? ⟨g60_0, 2, none⟩ = some (.slice D2 m2 e2) ∧ V.cell? ⟨g60_0, 3, none⟩ = some (.bool s3) ∧ V.cell? ⟨g60_0, 4, none⟩ = some (.slice A3 n3 c3) ∧ V.cell? ⟨g60_0, 5, none⟩ = some (.slice D3 m3 e3) ∧ V.cell? ⟨g60_0, 6, none⟩ = some (.bool false) ∧ V.cell? ⟨g60_0, 7, none⟩ = some (.bool false))) (by kernel_rfl) ⟨b1.cell 0 _ rfl, b1.cell 1 _ rfl, b1.cell 2 _ rfl, b1.cell 3 _ rfl, b1.cell 4 _ rfl, b1.cell 5 _ rfl, b1.cell 6 _ rfl, b1.cell 7 _ rfl, b4.cell 0 _ rfl, b4.cell 1 _ rfl, b4.cell 2 _ rfl, b4.cell 3 _ rfl, b4.cell 4 _ rfl, b4.cell 5 _ rfl, b4.cell 6 _ rfl, b4.cell 7 _ rfl⟩ (fun hHeld => ?_)
            generalize wc.drew = v62 at H0 hHeld r0 r1 r2 r3 j0 j1 b1 b2 b4 ⊢
            refine wpAnyH_take (i := 0) (v := ?_) rfl (by kernel_rfl) (by kernel_rfl) (by kernel_rfl) (fun _ _ _ h => h) (Or.inl ⟨by rfl, ?_⟩) (by assumption) ?_
            rotate_left
            · (intro w hSw; (try dsimp only at hSw); go_simp; (try with_reducible rfl))
            (try simp only [List.getElem_toArray, List.getElem_cons_zero, Act.put, List.setIfInBounds_toArray, List.set_cons_zero, List.set_cons_succ])
            refine wpAnyH_take (i := 1) (v := ?_) rfl (by kernel_rfl) (by kernel_rfl) (by kernel_rfl) (fun _ _ _ h => h) (Or.inl ⟨by rfl, ?_⟩) (by assumption) ?_
            rotate_left
            · (intro w hSw; (try dsimp only at hSw); go_simp; (try with_reducible rfl))
            (try simp only [List.getElem_toArray, List.getElem_cons_succ, List.getElem_cons_zero, Act.put, List.setIfInBounds_toArray, List.set_cons_zero, List.set_cons_succ])
            refine wpAnyH_take (i := 2) (v := ?_) rfl (by kernel_rfl) (by kernel_rfl) (by kernel_rfl) (fun _ _ _ h => h) (Or.inl ⟨by rfl, ?_⟩) (by assumption) ?_
            rotate_left
            · (intro w hSw; (try dsimp only at hSw); go_simp; (try with_reducible rfl))
            (try simp only [List.getElem_toArray, List.getElem_cons_succ, List.getElem_cons_zero, Act.put, List.setIfInBounds_toArray, List.set_cons_zero, List.set_cons_succ])
            refine wpAnyH_take (i := 3) (v := ?_) rfl (by kernel_rfl) (by kernel_rfl) (by kernel_rfl) (fun _ _ _ h => h) (Or.inl ⟨by rfl, ?_⟩) (by assumption) ?_
            rotate_left
            · (intro w hSw; (try dsimp only at hSw); go_simp; (try with_reducible rfl))
            (try simp only [List.getElem_toArray, List.getElem_cons_succ, List.getElem_cons_zero, Act.put, List.setIfInBounds_toArray, List.set_cons_zero, List.set_cons_succ])
            refine wpAnyH_take (i := 4) (v := ?_) rfl (by kernel_rfl) (by kernel_rfl) (by kernel_rfl) (fun _ _ _ h => h) (Or.inl ⟨by rfl, ?_⟩) (by assumption) ?_
            rotate_left
            · (intro w hSw; (try dsimp only at hSw); go_simp; (try with_reducible rfl))
            (try simp only [List.getElem_toArray, List.getElem_cons_succ, List.getElem_cons_zero, Act.put, List.setIfInBounds_toArray, List.set_cons_zero, List.set_cons_succ])
            refine wpAnyH_take (i := 5) (v := ?_) rfl (by kernel_rfl) (by kernel_rfl) (by kernel_rfl) (fun _ _ _ h => h) (Or.inl ⟨by rfl, ?_⟩) (by assumption) ?_
            rotate_left
            · (intro w hSw; (try dsimp only at hSw); go_simp; (try with_reducible rfl))
            (try simp only [List.getElem_toArray, List.getElem_cons_succ, List.getElem_cons_zero, Act.put, List.setIfInBounds_toArray, List.set_cons_zero, List.set_cons_succ])
            refine wpAnyH_take (i := 6) (v := ?_) rfl (by kernel_rfl) (by kernel_rfl) (by kernel_rfl) (fun _ _ _ h => h) (Or.inl ⟨by rfl, ?_⟩) (by assumption) ?_
            rotate_left
            · (intro w hSw; (try dsimp only at hSw); go_simp; (try with_reducible rfl))
            (try simp only [List.getElem_toArray, List.getElem_cons_succ, List.getElem_cons_zero, Act.put, List.setIfInBounds_toArray, List.set_cons_zero, List.set_cons_succ])
            refine wpAnyH_take (i := 7) (v := ?_) rfl (by kernel_rfl) (by kernel_rfl) (by kernel_rfl) (fun _ _ _ h => h) (Or.inl ⟨by rfl, ?_⟩) (by assumption) ?_
            rotate_left
            · (intro w hSw; (try dsimp only at hSw); go_simp; (try with_reducible rfl))
            (try simp only [List.getElem_toArray, List.getElem_cons_succ, List.getElem_cons_zero, Act.put, List.setIfInBounds_toArray, List.set_cons_zero, List.set_cons_succ])
            refine wpAnyH_take (i := 8) (v := ?_) rfl (by kernel_rfl) (by kernel_rfl) (by kernel_rfl) (fun _ _ _ h => h) (Or.inl ⟨by rfl, ?_⟩) (by assumption) ?_
            rotate_left
            · (intro w hSw; (try dsimp only at hSw); go_simp; (try with_reducible rfl))
            (try simp only [List.getElem_toArray, List.getElem_cons_succ, List.getElem_cons_zero, Act.put, List.setIfInBounds_toArray, List.set_cons_zero, List.set_cons_succ])
            refine wpAnyH_take (i := 10) (v := ?_) rfl (by kernel_rfl) (by kernel_rfl) (by kernel_rfl) (fun _ _ _ h => h) (Or.inl ⟨by rfl, ?_⟩) (by assumption) ?_
            rotate_left
            · (intro w hSw; (try dsimp only at hSw); go_simp; (try with_reducible rfl))
            (try simp only [List.getElem_toArray, List.getElem_cons_succ, List.getElem_cons_zero, Act.put, List.setIfInBounds_toArray, List.set_cons_zero, List.set_cons_succ])
            refine wpAnyH_take (i := 9) (v := ?_) rfl (by kernel_rfl) (by kernel_rfl) (by kernel_rfl) (fun _ _ _ h => h) (Or.inl ⟨by rfl, ?_⟩) (by assumption) ?_
            rotate_left
            · (intro w hSw; (try dsimp only at hSw); go_simp; (try with_reducible rfl))
            (try simp only [List.getElem_toArray, List.getElem_cons_succ, List.getElem_cons_zero, Act.put, List.setIfInBounds_toArray, List.set_cons_zero, List.set_cons_succ])
            refine wpAnyH_take (i := 11) (v := ?_) rfl (by kernel_rfl) (by kernel_rfl) (by kernel_rfl) (fun _ _ _ h => h) (Or.inl ⟨by rfl, ?_⟩) (by assumption) ?_
            rotate_left
            · (intro w hSw; (try dsimp only at hSw); go_simp; (try with_reducible rfl))
            (try simp only [List.getElem_toArray, List.getElem_cons_succ, List.getElem_cons_zero, Act.put, List.setIfInBounds_toArray, List.set_cons_zero, List.set_cons_succ])
            refine wpAnyH_ready (rs := [12]) (by kernel_rfl) (by simp) (AllReadyH.cons (o := _) rfl (fun K hK => ?_) AllReadyH.nil)
            go_simp
            go_at_call 43
            refine (nqc_v j0 j1 (by decide) (by decide) HS.out).mono ?_
            rintro e w63 ⟨rfl, hb⟩
            replace r0 := r0.below hb
            replace r1 := r1.below hb
            replace r2 := r2.below hb
            replace r3 := r3.below hb
            replace j0 := j0.below hb
            replace j1 := j1.below hb
            replace b1 := b1.below hb
            replace b2 := b2.below hb
            replace b4 := b4.below hb
            replace H0 := H0.trans (hb.mono H0.size)
            clear hb
            go_wp2_with fail
            refine hK.out _ _ ⟨b1.cell 0 _ rfl, b1.cell 1 _ rfl, b1.cell 2 _ rfl, b1.cell 3 _ rfl, b1.cell 4 _ rfl, b1.cell 5 _ rfl, b1.cell 6 _ rfl, b1.cell 7 _ rfl, b4.cell 0 _ rfl, b4.cell 1 _ rfl, b4.cell 2 _ rfl, b4.cell 3 _ rfl, b4.cell 4 _ rfl, b4.cell 5 _ rfl, b4.cell 6 _ rfl, b4.cell 7 _ rfl⟩ (fun hHeld => ?_)
            clear hK K
            (try simp only [List.getElem_toArray, List.getElem_cons_succ, List.getElem_cons_zero, Act.put, List.setIfInBounds_toArray, List.set_cons_zero, List.set_cons_succ])
            refine wpAnyH_take (i := 13) (v := ?_) rfl (by kernel_rfl) (by kernel_rfl) (by kernel_rfl) (fun _ _ _ h => h) (Or.inl ⟨by rfl, ?_⟩) (by assumption) ?_
            rotate_left
            · (intro w hSw; (try dsimp only at hSw); go_simp; (try with_reducible rfl))
            (try simp only [List.getElem_toArray, List.getElem_cons_succ, List.getElem_cons_zero, Act.put, List.setIfInBounds_toArray, List.set_cons_zero, List.set_cons_succ])
            refine wpAnyH_take (i := 14) (v := ?_) rfl (by kernel_rfl) (by kernel_rfl) (by kernel_rfl) (fun _ _ _ h => h) (Or.inl ⟨by rfl, ?_⟩) (by assumption) ?_
            rotate_left
            · (intro w hSw; (try dsimp only at hSw); go_simp; (try with_reducible rfl))
            (try simp only [List.getElem_toArray, List.getElem_cons_succ, List.getElem_cons_zero, Act.put, List.setIfInBounds_toArray, List.set_cons_zero, List.set_cons_succ])
            have cb20 := b2.cell 0 _ rfl
            have yb20 := b2.frozen 0
            have cb21 := b2.cell 1 _ rfl
            have yb21 := b2.frozen 1
            have cb22 := b2.cell 2 _ rfl
            have yb22 := b2.frozen 2
            have cb23 := b2.cell 3 _ rfl
            have yb23 := b2.frozen 3
            have cb24 := b2.cell 4 _ rfl
            have yb24 := b2.frozen 4
            have cb25 := b2.cell 5 _ rfl
            have yb25 := b2.frozen 5
            have cb26 := b2.cell 6 _ rfl
            have yb26 := b2.frozen 6
            have cb27 := b2.cell 7 _ rfl
            have yb27 := b2.frozen 7
            refine wpAnyH_ready (rs := [15]) (by kernel_rfl) (by simp) (AllReadyH.cons (o := _) rfl (fun K hK => ?_) AllReadyH.nil)
            go_simp
            clear cb20 yb20 cb21 yb21 cb22 yb22 cb23 yb23 cb24 yb24 cb25 yb25 cb26 yb26 cb27 yb27
            have hg : World.grownBy w63 ((((((((w63.setCell ⟨w.heap.size + 1, 0, none⟩ (.bool s2)).setCell ⟨w.heap.size + 1, 1, none⟩ (.slice A2 n2 c2)).setCell ⟨w.heap.size + 1, 2, none⟩ (.slice D2 m2 e2)).setCell ⟨w.heap.size + 1, 3, none⟩ (.bool s3)).setCell ⟨w.heap.size + 1, 4, none⟩ (.slice A3 n3 c3)).setCell ⟨w.heap.size + 1, 5, none⟩ (.slice D3 m3 e3)).setCell ⟨w.heap.size + 1, 6, none⟩ (.bool false)).setCell ⟨w.heap.size + 1, 7, none⟩ (.bool false)) (some (w.heap.size + 1)) := only_trans (only_trans (only_trans (only_trans (only_trans (only_trans (only_trans (only_setCell _ ⟨w.heap.size + 1, 0, none⟩ (.bool s2)) (only_setCell _ ⟨w.heap.size + 1, 1, none⟩ (.slice A2 n2 c2))) (only_setCell _ ⟨w.heap.size + 1, 2, none⟩ (.slice D2 m2 e2))) (only_setCell _ ⟨w.heap.size + 1, 3, none⟩ (.bool s3))) (only_setCell _ ⟨w.heap.size + 1, 4, none⟩ (.slice A3 n3 c3))) (only_setCell _ ⟨w.heap.size + 1, 5, none⟩ (.slice D3 m3 e3))) (only_setCell _ ⟨w.heap.size + 1, 6, none⟩ (.bool false))) (only_setCell _ ⟨w.heap.size + 1, 7, none⟩ (.bool false))
            have hB : Box ((((((((w63.setCell ⟨w.heap.size + 1, 0, none⟩ (.bool s2)).setCell ⟨w.heap.size + 1, 1, none⟩ (.slice A2 n2 c2)).setCell ⟨w.heap.size + 1, 2, none⟩ (.slice D2 m2 e2)).setCell ⟨w.heap.size + 1, 3, none⟩ (.bool s3)).setCell ⟨w.heap.size + 1, 4, none⟩ (.slice A3 n3 c3)).setCell ⟨w.heap.size + 1, 5, none⟩ (.slice D3 m3 e3)).setCell ⟨w.heap.size + 1, 6, none⟩ (.bool false)).setCell ⟨w.heap.size + 1, 7, none⟩ (.bool false)) (w.heap.size + 1) #[.bool s2, .slice A2 n2 c2, .slice D2 m2 e2, .bool s3, .slice A3 n3 c3, .slice D3 m3 e3, .bool false, .bool false] 39 := (Box.step (Box.step (Box.step (Box.step (Box.step (Box.step (Box.step (Box.step b2 0 (.bool s2)) 1 (.slice A2 n2 c2)) 2 (.slice D2 m2 e2)) 3 (.bool s3)) 4 (.slice A3 n3 c3)) 5 (.slice D3 m3 e3)) 6 (.bool false)) 7 (.bool false))
            generalize hX : ((((((((w63.setCell ⟨w.heap.size + 1, 0, none⟩ (.bool s2)).setCell ⟨w.heap.size + 1, 1, none⟩ (.slice A2 n2 c2)).setCell ⟨w.heap.size + 1, 2, none⟩ (.slice D2 m2 e2)).setCell ⟨w.heap.size + 1, 3, none⟩ (.bool s3)).setCell ⟨w.heap.size + 1, 4, none⟩ (.slice A3 n3 c3)).setCell ⟨w.heap.size + 1, 5, none⟩ (.slice D3 m3 e3)).setCell ⟨w.heap.size + 1, 6, none⟩ (.bool false)).setCell ⟨w.heap.size + 1, 7, none⟩ (.bool false)) = X64 at hg hB ⊢
            clear hX
            replace r0 := r0.kept b2 (by simp [notInt]) hg
            replace r1 := r1.kept b2 (by simp [notInt]) hg
            replace r2 := r2.kept b2 (by simp [notInt]) hg
            replace r3 := r3.kept b2 (by simp [notInt]) hg
            replace j0 := j0.kept b2 (by simp [notInt]) hg
            replace j1 := j1.kept b2 (by simp [notInt]) hg
            replace b1 := b1.other hg (by omega)
            replace b4 := b4.other hg (by omega)
            replace b2 := hB
            replace H0 := below_only H0 hg (by omega) H0.size
            clear hg hB
            refine hK.out _ _ ⟨b1.cell 0 _ rfl, b1.cell 1 _ rfl, b1.cell 2 _ rfl, b1.cell 3 _ rfl, b1.cell 4 _ rfl, b1.cell 5 _ rfl, b1.cell 6 _ rfl, b1.cell 7 _ rfl, b4.cell 0 _ rfl, b4.cell 1 _ rfl, b4.cell 2 _ rfl, b4.cell 3 _ rfl, b4.cell 4 _ rfl, b4.cell 5 _ rfl, b4.cell 6 _ rfl, b4.cell 7 _ rfl⟩ (fun hHeld => ?_)
            clear hK K
            (try simp only [List.getElem_toArray, List.getElem_cons_succ, List.getElem_cons_zero, Act.put, List.setIfInBounds_toArray, List.set_cons_zero, List.set_cons_succ])
            refine wpAnyH_take (i := 16) (v := ?_) rfl (by kernel_rfl) (by kernel_rfl) (by kernel_rfl) (fun _ _ _ h => h) (Or.inl ⟨by rfl, ?_⟩) (by assumption) ?_
            rotate_left
            · (intro w hSw; (try dsimp only at hSw); go_simp; (try with_reducible rfl))
            (try simp only [List.getElem_toArray, List.getElem_cons_succ, List.getElem_cons_zero, Act.put, List.setIfInBounds_toArray, List.set_cons_zero, List.set_cons_succ])
            refine wpAnyH_done (by kernel_rfl) ?_ _
            refine NoPanic.normal ?_
            go_wp2_with fail
            refine bodyPost_ret (ret_s6b rfl rfl b2) rfl ?_
            exact ⟨by unfold ReadQ; exact ⟨_, _, _, _, _, _, _, _, _, _, _, _, _, _, _, _, by rw [HO.out, HD.out]; rfl, fun hx => (by rw [HO.out, HD.out] at hx; cases hx)⟩, H0⟩
        · have hD := drawn_below wc
          replace r0 := r0.below hD
          replace r1 := r1.below hD
          replace r2 := r2.below hD
          replace r3 := r3.below hD
          replace j0 := j0.below hD
          replace j1 := j1.below hD
          replace b1 := b1.below hD
          replace b2 := b2.below hD
          replace b4 := b4.below hD
          replace H0 := H0.trans (hD.mono H0.size)
          clear hD
          refine wp_region_noPanic ?_
          refine wp_region_held_drew (S := (fun V => V.cell? ⟨w.heap.size, 0, none⟩ = some (.bool s0) ∧ V.cell? ⟨w.heap.size, 1, none⟩ = some (.slice A0 n0 c0) ∧ V.cell? ⟨w.heap.size, 2, none⟩ = some (.slice D0 m0 e0) ∧ V.cell? ⟨w.heap.size, 3, none⟩ = some (.bool s1) ∧ V.cell? ⟨w.heap.size, 4, none⟩ = some (.slice A1 n1 c1) ∧ V.cell? ⟨w.heap.size, 5, none⟩ = some (.slice D1 m1 e1) ∧ V.cell? ⟨w.heap.size, 6, none⟩ = some (.bool false) ∧ V.cell? ⟨w.heap.size, 7, none⟩ = some (.bool true) ∧ V.cell? ⟨g60_0, 0, none⟩ = some (.bool s2) ∧ V.cell? ⟨g60_0, 1, none⟩ = some (.slice A2 n2 c2) ∧ V.cell? ⟨g60_0, 2, none⟩ = some (.slice D2 m2 e2) ∧ V.cell? ⟨g60_0, 3, none⟩ = some (.bool s3) ∧ V.cell? ⟨g60_0, 4, none⟩ = some (.slice A3 n3 c3) ∧ V.cell? ⟨g60_0, 5, none⟩ = some (.slice D3 m3 e3) ∧ V.cell? ⟨g60_0, 6, none⟩ = some (.bool false) ∧ V.cell? ⟨g60_0, 7, none⟩ = some (.bool true))) (by kernel_rfl) ⟨b1.cell 0 _ rfl, b1.cell 1 _ rfl, b1.cell 2 _ rfl, b1.cell 3 _ rfl, b1.cell 4 _ rfl, b1.cell 5 _ rfl, b1.cell 6 _ rfl, b1.cell 7 _ rfl, b4.cell 0 _ rfl, b4.cell 1 _ rfl, b4.cell 2 _ rfl, b4.cell 3 _ rfl, b4.cell 4 _ rfl, b4.cell 5 _ rfl, b4.cell 6 _ rfl, b4.cell 7 _ rfl⟩ (fun hHeld => ?_)
          generalize wc.drew = v62 at H0 hHeld r0 r1 r2 r3 j0 j1 b1 b2 b4 ⊢
          refine wpAnyH_take (i := 0) (v := ?_) rfl (by kernel_rfl) (by kernel_rfl) (by kernel_rfl) (fun _ _ _ h => h) (Or.inl ⟨by rfl, ?_⟩) (by assumption) ?_
          rotate_left
          · (intro w hSw; (try dsimp only at hSw); go_simp; (try with_reducible rfl))
          (try simp only [List.getElem_toArray, List.getElem_cons_zero, Act.put, List.setIfInBounds_toArray, List.set_cons_zero, List.set_cons_succ])
          refine wpAnyH_take (i := 1) (v := ?_) rfl (by kernel_rfl) (by kernel_rfl) (by kernel_rfl) (fun _ _ _ h => h) (Or.inl ⟨by rfl, ?_⟩) (by assumption) ?_
          rotate_left
          · (intro w hSw; (try dsimp only at hSw); go_simp; (try with_reducible rfl))
          (try simp only [List.getElem_toArray, List.getElem_cons_succ, List.getElem_cons_zero, Act.put, List.setIfInBounds_toArray, List.set_cons_zero, List.set_cons_succ])
          refine wpAnyH_take (i := 2) (v := ?_) rfl (by kernel_rfl) (by kernel_rfl) (by kernel_rfl) (fun _ _ _ h => h) (Or.inl ⟨by rfl, ?_⟩) (by assumption) ?_
          rotate_left
          · (intro w hSw; (try dsimp only at hSw); go_simp; (try with_reducible rfl))
          (try simp only [List.getElem_toArray, List.getElem_cons_succ, List.getElem_cons_zero, Act.put, List.setIfInBounds_toArray, List.set_cons_zero, List.set_cons_succ])
          refine wpAnyH_take (i := 3) (v := ?_) rfl (by kernel_rfl) (by kernel_rfl) (by kernel_rfl) (fun _ _ _ h => h) (Or.inl ⟨by rfl, ?_⟩) (by assumption) ?_
          rotate_left
          · (intro w hSw; (try dsimp only at hSw); go_simp; (try with_reducible rfl))
          (try simp only [List.getElem_toArray, List.getElem_cons_succ, List.getElem_cons_zero, Act.put, List.setIfInBounds_toArray, List.set_cons_zero, List.set_cons_succ])
          refine wpAnyH_take (i := 4) (v := ?_) rfl (by kernel_rfl) (by kernel_rfl) (by kernel_rfl) (fun _ _ _ h => h) (Or.inl ⟨by rfl, ?_⟩) (by assumption) ?_
          rotate_left
          · (intro w hSw; (try dsimp only at hSw); go_simp; (try with_reducible rfl))
          (try simp only [List.getElem_toArray, List.getElem_cons_succ, List.getElem_cons_zero, Act.put, List.setIfInBounds_toArray, List.set_cons_zero, List.set_cons_succ])
          refine wpAnyH_take (i := 5) (v := ?_) rfl (by kernel_rfl) (by kernel_rfl) (by kernel_rfl) (fun _ _ _ h => h) (Or.inl ⟨by rfl, ?_⟩) (by assumption) ?_
          rotate_left
          · (intro w hSw; (try dsimp only at hSw); go_simp; (try with_reducible rfl))
          (try simp only [List.getElem_toArray, List.getElem_cons_succ, List.getElem_cons_zero, Act.put, List.setIfInBounds_toArray, List.set_cons_zero, List.set_cons_succ])
          refine wpAnyH_take (i := 6) (v := ?_) rfl (by kernel_rfl) (by kernel_rfl) (by kernel_rfl) (fun _ _ _ h => h) (Or.inl ⟨by rfl, ?_⟩) (by assumption) ?_
          rotate_left
          · (intro w hSw; (try dsimp only at hSw); go_simp; (try with_reducible rfl))
          (try simp only [List.getElem_toArray, List.getElem_cons_succ, List.getElem_cons_zero, Act.put, List.setIfInBounds_toArray, List.set_cons_zero, List.set_cons_succ])
          refine wpAnyH_take (i := 7) (v := ?_) rfl (by kernel_rfl) (by kernel_rfl) (by kernel_rfl) (fun _ _ _ h => h) (Or.inl ⟨by rfl, ?_⟩) (by assumption) ?_
          rotate_left
          · (intro w hSw; (try dsimp only at hSw); go_simp; (try with_reducible rfl))
          (try simp only [List.getElem_toArray, List.getElem_cons_succ, List.getElem_cons_zero, Act.put, List.setIfInBounds_toArray, List.set_cons_zero, List.set_cons_succ])
          refine wpAnyH_take (i := 8) (v := undef) rfl (by kernel_rfl) (by kernel_rfl) (by kernel_rfl) (fun _ _ _ h => h) (Or.inr ⟨by rfl, rfl⟩) (by assumption) ?_
          (try simp only [List.getElem_toArray, List.getElem_cons_succ, List.getElem_cons_zero, Act.put, List.setIfInBounds_toArray, List.set_cons_zero, List.set_cons_succ])
          refine wpAnyH_take (i := 10) (v := undef) rfl (by kernel_rfl) (by kernel_rfl) (by kernel_rfl) (fun _ _ _ h => h) (Or.inr ⟨by rfl, rfl⟩) (by assumption) ?_
          (try simp only [List.getElem_toArray, List.getElem_cons_succ, List.getElem_cons_zero, Act.put, List.setIfInBounds_toArray, List.set_cons_zero, List.set_cons_succ])
          refine wpAnyH_take (i := 9) (v := undef) rfl (by kernel_rfl) (by kernel_rfl) (by kernel_rfl) (fun _ _ _ h => h) (Or.inr ⟨by rfl, rfl⟩) (by assumption) ?_
          (try simp only [List.getElem_toArray, List.getElem_cons_succ, List.getElem_cons_zero, Act.put, List.setIfInBounds_toArray, List.set_cons_zero, List.set_cons_succ])
          refine wpAnyH_take (i := 11) (v := undef) rfl (by kernel_rfl) (by kernel_rfl) (by kernel_rfl) (fun _ _ _ h => h) (Or.inr ⟨by rfl, rfl⟩) (by assumption) ?_
          (try simp only [List.getElem_toArray, List.getElem_cons_succ, List.getElem_cons_zero, Act.put, List.setIfInBounds_toArray, List.set_cons_zero, List.set_cons_succ])
          refine wpAnyH_take (i := 12) (v := undef) rfl (by kernel_rfl) (by kernel_rfl) (by kernel_rfl) (fun _ _ _ h => h) (Or.inr ⟨by rfl, rfl⟩) (by assumption) ?_
          (try simp only [List.getElem_toArray, List.getElem_cons_succ, List.getElem_cons_zero, Act.put, List.setIfInBounds_toArray, List.set_cons_zero, List.set_cons_succ])
          refine wpAnyH_take (i := 13) (v := undef) rfl (by kernel_rfl) (by kernel_rfl) (by kernel_rfl) (fun _ _ _ h => h) (Or.inr ⟨by rfl, rfl⟩) (by assumption) ?_
          (try simp only [List.getElem_toArray, List.getElem_cons_succ, List.getElem_cons_zero, Act.put, List.setIfInBounds_toArray, List.set_cons_zero, List.set_cons_succ])
          refine wpAnyH_take (i := 14) (v := ?_) rfl (by kernel_rfl) (by kernel_rfl) (by kernel_rfl) (fun _ _ _ h => h) (Or.inl ⟨by rfl, ?_⟩) (by assumption) ?_
          rotate_left
          · (intro w hSw; (try dsimp only at hSw); go_simp; (try with_reducible rfl))
          (try simp only [List.getElem_toArray, List.getElem_cons_succ, List.getElem_cons_zero, Act.put, List.setIfInBounds_toArray, List.set_cons_zero, List.set_cons_succ])
          have cb20 := b2.cell 0 _ rfl
          have yb20 := b2.frozen 0
          have cb21 := b2.cell 1 _ rfl
          have yb21 := b2.frozen 1
          have cb22 := b2.cell 2 _ rfl
          have yb22 := b2.frozen 2
          have cb23 := b2.cell 3 _ rfl
          have yb23 := b2.frozen 3
          have cb24 := b2.cell 4 _ rfl
          have yb24 := b2.frozen 4
          have cb25 := b2.cell 5 _ rfl
          have yb25 := b2.frozen 5
          have cb26 := b2.cell 6 _ rfl
          have yb26 := b2.frozen 6
          have cb27 := b2.cell 7 _ rfl
          have yb27 := b2.frozen 7
          refine wpAnyH_ready (rs := [15]) (by kernel_rfl) (by simp) (AllReadyH.cons (o := _) rfl (fun K hK => ?_) AllReadyH.nil)
          go_simp
          clear cb20 yb20 cb21 yb21 cb22 yb22 cb23 yb23 cb24 yb24 cb25 yb25 cb26 yb26 cb27 yb27
          have hg : World.grownBy v62 ((((((((v62.setCell ⟨w.heap.size + 1, 0, none⟩ (.bool s2)).setCell ⟨w.heap.size + 1, 1, none⟩ (.slice A2 n2 c2)).setCell ⟨w.heap.size + 1, 2, none⟩ (.slice D2 m2 e2)).setCell ⟨w.heap.size + 1, 3, none⟩ (.bool s3)).setCell ⟨w.heap.size + 1, 4, none⟩ (.slice A3 n3 c3)).setCell ⟨w.heap.size + 1, 5, none⟩ (.slice D3 m3 e3)).setCell ⟨w.heap.size + 1, 6, none⟩ (.bool false)).setCell ⟨w.heap.size + 1, 7, none⟩ (.bool true)) (some (w.heap.size + 1)) := only_trans (only_trans (only_trans (only_trans (only_trans (only_trans (only_trans (only_setCell _ ⟨w.heap.size + 1, 0, none⟩ (.bool s2)) (only_setCell _ ⟨w.heap.size + 1, 1, none⟩ (.slice A2 n2 c2))) (only_setCell _ ⟨w.heap.size + 1, 2, none⟩ (.slice D2 m2 e2))) (only_setCell _ ⟨w.heap.size + 1, 3, none⟩ (.bool s3))) (only_setCell _ ⟨w.heap.size + 1, 4, none⟩ (.slice A3 n3 c3))) (only_setCell _ ⟨w.heap.size + 1, 5, none⟩ (.slice D3 m3 e3))) (only_setCell _ ⟨w.heap.size + 1, 6, none⟩ (.bool false))) (only_setCell _ ⟨w.heap.size + 1, 7, none⟩ (.bool true))
          have hB : Box ((((((((v62.setCell ⟨w.heap.size + 1, 0, none⟩ (.bool s2)).setCell ⟨w.heap.size + 1, 1, none⟩ (.slice A2 n2 c2)).setCell ⟨w.heap.size + 1, 2, none⟩ (.slice D2 m2 e2)).setCell ⟨w.heap.size + 1, 3, none⟩ (.bool s3)).setCell ⟨w.heap.size + 1, 4, none⟩ (.slice A3 n3 c3)).setCell ⟨w.heap.size + 1, 5, none⟩ (.slice D3 m3 e3)).setCell ⟨w.heap.size + 1, 6, none⟩ (.bool false)).setCell ⟨w.heap.size + 1, 7, none⟩ (.bool true)) (w.heap.size + 1) #[.bool s2, .slice A2 n2 c2, .slice D2 m2 e2, .bool s3, .slice A3 n3 c3, .slice D3 m3 e3, .bool false, .bool true] 39 := (Box.step (Box.step (Box.step (Box.step (Box.step (Box.step (Box.step (Box.step b2 0 (.bool s2)) 1 (.slice A2 n2 c2)) 2 (.slice D2 m2 e2)) 3 (.bool s3)) 4 (.slice A3 n3 c3)) 5 (.slice D3 m3 e3)) 6 (.bool false)) 7 (.bool true))
          generalize hX : ((((((((v62.setCell ⟨w.heap.size + 1, 0, none⟩ (.bool s2)).setCell ⟨w.heap.size + 1, 1, none⟩ (.slice A2 n2 c2)).setCell ⟨w.heap.size + 1, 2, none⟩ (.slice D2 m2 e2)).setCell ⟨w.heap.size + 1, 3, none⟩ (.bool s3)).setCell ⟨w.heap.size + 1, 4, none⟩ (.slice A3 n3 c3)).setCell ⟨w.heap.size + 1, 5, none⟩ (.slice D3 m3 e3)).setCell ⟨w.heap.size + 1, 6, none⟩ (.bool false)).setCell ⟨w.heap.size + 1, 7, none⟩ (.bool true)) = X63 at hg hB ⊢
          clear hX
          replace r0 := r0.kept b2 (by simp [notInt]) hg
          replace r1 := r1.kept b2 (by simp [notInt]) hg
          replace r2 := r2.kept b2 (by simp [notInt]) hg
          replace r3 := r3.kept b2 (by simp [notInt]) hg
          replace j0 := j0.kept b2 (by simp [notInt]) hg
          replace j1 := j1.kept b2 (by simp [notInt]) hg
          replace b1 := b1.other hg (by omega)
          replace b4 := b4.other hg (by omega)
          replace b2 := hB
          replace H0 := below_only H0 hg (by omega) H0.size
          clear hg hB
          refine hK.out _ _ ⟨b1.cell 0 _ rfl, b1.cell 1 _ rfl, b1.cell 2 _ rfl, b1.cell 3 _ rfl, b1.cell 4 _ rfl, b1.cell 5 _ rfl, b1.cell 6 _ rfl, b1.cell 7 _ rfl, b4.cell 0 _ rfl, b4.cell 1 _ rfl, b4.cell 2 _ rfl, b4.cell 3 _ rfl, b4.cell 4 _ rfl, b4.cell 5 _ rfl, b4.cell 6 _ rfl, b4.cell 7 _ rfl⟩ (fun hHeld => ?_)
          clear hK K
          (try simp only [List.getElem_toArray, List.getElem_cons_succ, List.getElem_cons_zero, Act.put, List.setIfInBounds_toArray, List.set_cons_zero, List.set_cons_succ])
          refine wpAnyH_take (i := 16) (v := ?_) rfl (by kernel_rfl) (by kernel_rfl) (by kernel_rfl) (fun _ _ _ h => h) (Or.inl ⟨by rfl, ?_⟩) (by assumption) ?_
          rotate_left
          · (intro w hSw; (try dsimp only at hSw); go_simp; (try with_reducible rfl))
          (try simp only [List.getElem_toArray, List.getElem_cons_succ, List.getElem_cons_zero, Act.put, List.setIfInBounds_toArray, List.set_cons_zero, List.set_cons_succ])
          refine wpAnyH_done (by kernel_rfl) ?_ _
          refine NoPanic.normal ?_
          go_wp2_with fail
          refine bodyPost_ret (ret_s6b rfl rfl b2) rfl ?_
          exact ⟨by unfold ReadQ; exact ⟨_, _, _, _, _, _, _, _, _, _, _, _, _, _, _, _, by rw [HO.out]; rfl, fun _ => ⟨.inl ⟨rfl, _, rfl, j0⟩, .inr ⟨rfl, rfl⟩⟩⟩, H0⟩
      · have hD := drawn_below wc
        replace r0 := r0.below hD
        replace r1 := r1.below hD
        replace r2 := r2.below hD
        replace r3 := r3.below hD
        replace j0 := j0.below hD
        replace j1 := j1.below hD
        replace b1 := b1.below hD
        replace b2 := b2.below hD
        replace b4 := b4.below hD
        replace H0 := H0.trans (hD.mono H0.size)
        clear hD
        refine wp_region_noPanic ?_
        refine wp_region_held_drew (S := (fun V => V.cell? ⟨w.heap.size, 0, none⟩ = some (.bool s0) ∧ V.cell? ⟨w.heap.size, 1, none⟩ = some (.slice A0 n0 c0) ∧ V.cell? ⟨w.heap.size, 2, none⟩ = some (.slice D0 m0 e0) ∧ V.cell? ⟨w.heap.size, 3, none⟩ = some (.bool s1) ∧ V.cell? ⟨w.heap.size, 4, none⟩ = some (.slice A1 n1 c1) ∧ V.cell? ⟨w.heap.size, 5, none⟩ = some (.slice D1 m1 e1) ∧ V.cell? ⟨w.heap.size, 6, none⟩ = some (.bool true) ∧ V.cell? ⟨w.heap.size, 7, none⟩ = some (.bool h0) ∧ V.cell? ⟨g60_0, 0, none⟩ = some (.bool s2) ∧ V.cell? ⟨g60_0, 1, none⟩ = some (.slice A2 n2 c2) ∧ V.cell? ⟨g60_0, 2, none⟩ = some (.slice D2 m2 e2) ∧ V.cell? ⟨g60_0, 3, none⟩ = some (.bool s3) ∧ V.cell? ⟨g60_0, 4, none⟩ = some (.slice A3 n3 c3) ∧ V.cell? ⟨g60_0, 5, none⟩ = some (.slice D3 m3 e3) ∧ V.cell? ⟨g60_0, 6, none⟩ = some (.bool true) ∧ V.cell? ⟨g60_0, 7, none⟩ = some (.bool h0))) (by kernel_rfl) ⟨b1.cell 0 _ rfl, b1.cell 1 _ rfl, b1.cell 2 _ rfl, b1.cell 3 _ rfl, b1.cell 4 _ rfl, b1.cell 5 _ rfl, b1.cell 6 _ rfl, b1.cell 7 _ rfl, b4.cell 0 _ rfl, b4.cell 1 _ rfl, b4.cell 2 _ rfl, b4.cell 3 _ rfl, b4.cell 4 _ rfl, b4.cell 5 _ rfl, b4.cell 6 _ rfl, b4.cell 7 _ rfl⟩ (fun hHeld => ?_)
        generalize wc.drew = v62 at H0 hHeld r0 r1 r2 r3 j0 j1 b1 b2 b4 ⊢
        refine wpAnyH_take (i := 0) (v := ?_) rfl (by kernel_rfl) (by kernel_rfl) (by kernel_rfl) (fun _ _ _ h => h) (Or.inl ⟨by rfl, ?_⟩) (by assumption) ?_
        rotate_left
        · (intro w hSw; (try dsimp only at hSw); go_simp; (try with_reducible rfl))
        (try simp only [List.getElem_toArray, List.getElem_cons_zero, Act.put, List.setIfInBounds_toArray, List.set_cons_zero, List.set_cons_succ])
        refine wpAnyH_take (i := 1) (v := ?_) rfl (by kernel_rfl) (by kernel_rfl) (by kernel_rfl) (fun _ _ _ h => h) (Or.inl ⟨by rfl, ?_⟩) (by assumption) ?_
        rotate_left
        · (intro w hSw; (try dsimp only at hSw); go_simp; (try with_reducible rfl))
        (try simp only [List.getElem_toArray, List.getElem_cons_succ, List.getElem_cons_zero, Act.put, List.setIfInBounds_toArray, List.set_cons_zero, List.set_cons_succ])
        refine wpAnyH_take (i := 2) (v := ?_) rfl (by kernel_rfl) (by kernel_rfl) (by kernel_rfl) (fun _ _ _ h => h) (Or.inl ⟨by rfl, ?_⟩) (by assumption) ?_
        rotate_left
        · (intro w hSw; (try dsimp only at hSw); go_simp; (try with_reducible rfl))
        (try simp only [List.getElem_toArray, List.getElem_cons_succ, List.getElem_cons_zero, Act.put, List.setIfInBounds_toArray, List.set_cons_zero, List.set_cons_succ])
        refine wpAnyH_take (i := 3) (v := ?_) rfl (by kernel_rfl) (by kernel_rfl) (by kernel_rfl) (fun _ _ _ h => h) (Or.inl ⟨by rfl, ?_⟩) (by assumption) ?_
        rotate_left
        · (intro w hSw; (try dsimp only at hSw); go_simp; (try with_reducible rfl))
        (try simp only [List.getElem_toArray, List.getElem_cons_succ, List.getElem_cons_zero, Act.put, List.setIfInBounds_toArray, List.set_cons_zero, List.set_cons_succ])
        refine wpAnyH_take (i := 4) (v := undef) rfl (by kernel_rfl) (by kernel_rfl) (by kernel_rfl) (fun _ _ _ h => h) (Or.inr ⟨by rfl, rfl⟩) (by assumption) ?_
        (try simp only [List.getElem_toArray, List.getElem_cons_succ, List.getElem_cons_zero, Act.put, List.setIfInBounds_toArray, List.set_cons_zero, List.set_cons_succ])
        refine wpAnyH_take (i := 5) (v := undef) rfl (by kernel_rfl) (by kernel_rfl) (by kernel_rfl) (fun _ _ _ h => h) (Or.inr ⟨by rfl, rfl⟩) (by assumption) ?_
        (try simp only [List.getElem_toArray, List.getElem_cons_succ, List.getElem_cons_zero, Act.put, List.setIfInBounds_toArray, List.set_cons_zero, List.set_cons_succ])
        refine wpAnyH_take (i := 6) (v := ?_) rfl (by kernel_rfl) (by kernel_rfl) (by kernel_rfl) (fun _ _ _ h => h) (Or.inl ⟨by rfl, ?_⟩) (by assumption) ?_
        rotate_left
        · (intro w hSw; (try dsimp only at hSw); go_simp; (try with_reducible rfl))
        (try simp only [List.getElem_toArray, List.getElem_cons_succ, List.getElem_cons_zero, Act.put, List.setIfInBounds_toArray, List.set_cons_zero, List.set_cons_succ])
        refine wpAnyH_take (i := 7) (v := ?_) rfl (by kernel_rfl) (by kernel_rfl) (by kernel_rfl) (fun _ _ _ h => h) (Or.inl ⟨by rfl, ?_⟩) (by assumption) ?_
        rotate_left
        · (intro w hSw; (try dsimp only at hSw); go_simp; (try with_reducible rfl))
        (try simp only [List.getElem_toArray, List.getElem_cons_succ, List.getElem_cons_zero, Act.put, List.setIfInBounds_toArray, List.set_cons_zero, List.set_cons_succ])
        refine wpAnyH_take (i := 8) (v := undef) rfl (by kernel_rfl) (by kernel_rfl) (by kernel_rfl) (fun _ _ _ h => h) (Or.inr ⟨by rfl, rfl⟩) (by assumption) ?_
        (try simp only [List.getElem_toArray, List.getElem_cons_succ, List.getElem_cons_zero, Act.put, List.setIfInBounds_toArray, List.set_cons_zero, List.set_cons_succ])
        refine wpAnyH_take (i := 10) (v := undef) rfl (by kernel_rfl) (by kernel_rfl) (by kernel_rfl) (fun _ _ _ h => h) (Or.inr ⟨by rfl, rfl⟩) (by assumption) ?_
        (try simp only [List.getElem_toArray, List.getElem_cons_succ, List.getElem_cons_zero, Act.put, List.setIfInBounds_toArray, List.set_cons_zero, List.set_cons_succ])
        refine wpAnyH_take (i := 9) (v := undef) rfl (by kernel_rfl) (by kernel_rfl) (by kernel_rfl) (fun _ _ _ h => h) (Or.inr ⟨by rfl, rfl⟩) (by assumption) ?_
        (try simp only [List.getElem_toArray, List.getElem_cons_succ, List.getElem_cons_zero, Act.put, List.setIfInBounds_toArray, List.set_cons_zero, List.set_cons_succ])
        refine wpAnyH_take (i := 11) (v := undef) rfl (by kernel_rfl) (by kernel_rfl) (by kernel_rfl) (fun _ _ _ h => h) (Or.inr ⟨by rfl, rfl⟩) (by assumption) ?_
        (try simp only [List.getElem_toArray, List.getElem_cons_succ, List.getElem_cons_zero, Act.put, List.setIfInBounds_toArray, List.set_cons_zero, List.set_cons_succ])
        refine wpAnyH_take (i := 12) (v := undef) rfl (by kernel_rfl) (by kernel_rfl) (by kernel_rfl) (fun _ _ _ h => h) (Or.inr ⟨by rfl, rfl⟩) (by assumption) ?_
        (try simp only [List.getElem_toArray, List.getElem_cons_succ, List.getElem_cons_zero, Act.put, List.setIfInBounds_toArray, List.set_cons_zero, List.set_cons_succ])
        refine wpAnyH_take (i := 13) (v := undef) rfl (by kernel_rfl) (by kernel_rfl) (by kernel_rfl) (fun _ _ _ h => h) (Or.inr ⟨by rfl, rfl⟩) (by assumption) ?_
        (try simp only [List.getElem_toArray, List.getElem_cons_succ, List.getElem_cons_zero, Act.put, List.setIfInBounds_toArray, List.set_cons_zero, List.set_cons_succ])
        refine wpAnyH_take (i := 14) (v := ?_) rfl (by kernel_rfl) (by kernel_rfl) (by kernel_rfl) (fun _ _ _ h => h) (Or.inl ⟨by rfl, ?_⟩) (by assumption) ?_
        rotate_left
        · (intro w hSw; (try dsimp only at hSw); go_simp; (try with_reducible rfl))
        (try simp only [List.getElem_toArray, List.getElem_cons_succ, List.getElem_cons_zero, Act.put, List.setIfInBounds_toArray, List.set_cons_zero, List.set_cons_succ])
        have cb20 := b2.cell 0 _ rfl
        have yb20 := b2.frozen 0
        have cb21 := b2.cell 1 _ rfl
        have yb21 := b2.frozen 1
        have cb22 := b2.cell 2 _ rfl
        have yb22 := b2.frozen 2
        have cb23 := b2.cell 3 _ rfl
        have yb23 := b2.frozen 3
        have cb24 := b2.cell 4 _ rfl
        have yb24 := b2.frozen 4
        have cb25 := b2.cell 5 _ rfl
        have yb25 := b2.frozen 5
        have cb26 := b2.cell 6 _ rfl
        have yb26 := b2.frozen 6
        have cb27 := b2.cell 7 _ rfl
        have yb27 := b2.frozen 7
        refine wpAnyH_ready (rs := [15]) (by kernel_rfl) (by simp) (AllReadyH.cons (o := _) rfl (fun K hK => ?_) AllReadyH.nil)
        go_simp
        clear cb20 yb20 cb21 yb21 cb22 yb22 cb23 yb23 cb24 yb24 cb25 yb25 cb26 yb26 cb27 yb27
        have hg : World.grownBy v62 ((((((((v62.setCell ⟨w.heap.size + 1, 0, none⟩ (.bool s2)).setCell ⟨w.heap.size + 1, 1, none⟩ (.slice A2 n2 c2)).setCell ⟨w.heap.size + 1, 2, none⟩ (.slice D2 m2 e2)).setCell ⟨w.heap.size + 1, 3, none⟩ (.bool s3)).setCell ⟨w.heap.size + 1, 4, none⟩ (.slice A3 n3 c3)).setCell ⟨w.heap.size + 1, 5, none⟩ (.slice D3 m3 e3)).setCell ⟨w.heap.size + 1, 6, none⟩ (.bool true)).setCell ⟨w.heap.size + 1, 7, none⟩ (.bool h0)) (some (w.heap.size + 1)) := only_trans (only_trans (only_trans (only_trans (only_trans (only_trans (only_trans (only_setCell _ ⟨w.heap.size + 1, 0, none⟩ (.bool s2)) (only_setCell _ ⟨w.heap.size + 1, 1, none⟩ (.slice A2 n2 c2))) (only_setCell _ ⟨w.heap.size + 1, 2, none⟩ (.slice D2 m2 e2))) (only_setCell _ ⟨w.heap.size + 1, 3, none⟩ (.bool s3))) (only_setCell _ ⟨w.heap.size + 1, 4, none⟩ (.slice A3 n3 c3))) (only_setCell _ ⟨w.heap.size + 1, 5, none⟩ (.slice D3 m3 e3))) (only_setCell _ ⟨w.heap.size + 1, 6, none⟩ (.bool true))) (only_setCell _ ⟨w.heap.size + 1, 7, none⟩ (.bool h0))
        have hB : Box ((((((((v62.setCell ⟨w.heap.size + 1, 0, none⟩ (.bool s2)).setCell ⟨w.heap.size + 1, 1, none⟩ (.slice A2 n2 c2)).setCell ⟨w.heap.size + 1, 2, none⟩ (.slice D2 m2 e2)).setCell ⟨w.heap.size + 1, 3, none⟩ (.bool s3)).setCell ⟨w.heap.size + 1, 4, none⟩ (.slice A3 n3 c3)).setCell ⟨w.heap.size + 1, 5, none⟩ (.slice D3 m3 e3)).setCell ⟨w.heap.size + 1, 6, none⟩ (.bool true)).setCell ⟨w.heap.size + 1, 7, none⟩ (.bool h0)) (w.heap.size + 1) #[.bool s2, .slice A2 n2 c2, .slice D2 m2 e2, .bool s3, .slice A3 n3 c3, .slice D3 m3 e3, .bool true, .bool h0] 39 := (Box.step (Box.step (Box.step (Box.step (Box.step (Box.step (Box.step (Box.step b2 0 (.bool s2)) 1 (.slice A2 n2 c2)) 2 (.slice D2 m2 e2)) 3 (.bool s3)) 4 (.slice A3 n3 c3)) 5 (.slice D3 m3 e3)) 6 (.bool true)) 7 (.bool h0))
        generalize hX : ((((((((v62.setCell ⟨w.heap.size + 1, 0, none⟩ (.bool s2)).setCell ⟨w.heap.size + 1, 1, none⟩ (.slice A2 n2 c2)).setCell ⟨w.heap.size + 1, 2, none⟩ (.slice D2 m2 e2)).setCell ⟨w.heap.size + 1, 3, none⟩ (.bool s3)).setCell ⟨w.heap.size + 1, 4, none⟩ (.slice A3 n3 c3)).setCell ⟨w.heap.size + 1, 5, none⟩ (.slice D3 m3 e3)).setCell ⟨w.heap.size + 1, 6, none⟩ (.bool true)).setCell ⟨w.heap.size + 1, 7, none⟩ (.bool h0)) = X63 at hg hB ⊢
        clear hX
        replace r0 := r0.kept b2 (by simp [notInt]) hg
        replace r1 := r1.kept b2 (by simp [notInt]) hg
        replace r2 := r2.kept b2 (by simp [notInt]) hg
        replace r3 := r3.kept b2 (by simp [notInt]) hg
        replace j0 := j0.kept b2 (by simp [notInt]) hg
        replace j1 := j1.kept b2 (by simp [notInt]) hg
        replace b1 := b1.other hg (by omega)
        replace b4 := b4.other hg (by omega)
        replace b2 := hB
        replace H0 := below_only H0 hg (by omega) H0.size
        clear hg hB
        refine hK.out _ _ ⟨b1.cell 0 _ rfl, b1.cell 1 _ rfl, b1.cell 2 _ rfl, b1.cell 3 _ rfl, b1.cell 4 _ rfl, b1.cell 5 _ rfl, b1.cell 6 _ rfl, b1.cell 7 _ rfl, b4.cell 0 _ rfl, b4.cell 1 _ rfl, b4.cell 2 _ rfl, b4.cell 3 _ rfl, b4.cell 4 _ rfl, b4.cell 5 _ rfl, b4.cell 6 _ rfl, b4.cell 7 _ rfl⟩ (fun hHeld => ?_)
        clear hK K
        (try simp only [List.getElem_toArray, List.getElem_cons_succ, List.getElem_cons_zero, Act.put, List.setIfInBounds_toArray, List.set_cons_zero, List.set_cons_succ])
        refine wpAnyH_take (i := 16) (v := ?_) rfl (by kernel_rfl) (by kernel_rfl) (by kernel_rfl) (fun _ _ _ h => h) (Or.inl ⟨by rfl, ?_⟩) (by assumption) ?_
        rotate_left
        · (intro w hSw; (try dsimp only at hSw); go_simp; (try with_reducible rfl))
        (try simp only [List.getElem_toArray, List.getElem_cons_succ, List.getElem_cons_zero, Act.put, List.setIfInBounds_toArray, List.set_cons_zero, List.set_cons_succ])
        refine wpAnyH_done (by kernel_rfl) ?_ _
        refine NoPanic.normal ?_
        go_wp2_with fail
        refine bodyPost_ret (ret_s6b rfl rfl b2) rfl ?_
        exact ⟨by unfold ReadQ; exact ⟨_, _, _, _, _, _, _, _, _, _, _, _, _, _, _, _, by rw [HO.out]; rfl, fun _ => ⟨.inr ⟨rfl, rfl⟩, by cases h0 with | false => exact .inl ⟨rfl, _, rfl, j1⟩ | true => exact .inr ⟨rfl, rfl⟩⟩⟩, H0⟩
end
end Go.Proofs.YtpgkkkodniiilaaGreatDoor
