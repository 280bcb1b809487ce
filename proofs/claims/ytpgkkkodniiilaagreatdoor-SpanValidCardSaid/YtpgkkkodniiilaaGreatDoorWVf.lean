/-
  Any list of spans as an argument; the walk of the law SpanValid.
-/
import Derived.Test.YtpgkkkodniiilaaGreatDoorWVd
import Derived.Test.YtpgkkkodniiilaaGreatDoorWVe
import Derived.Test.YtpgkkkodniiilaaGreatDoorWVk
import Derived.Test.YtpgkkkodniiilaaGreatDoorWIs
import Derived.IntWalk
import Derived.Deep.Cut
namespace Go.Proofs.YtpgkkkodniiilaaGreatDoor
open Go.RowKit

section
variable {f0 h0 f1 h1 f2 h2 f3 h3 f4 h4 f5 h5 f6 h6 f7 h7 f8 h8 f9 h9 f10 h10 f11 h11 : Bool} {A0 A1 A2 A3 A4 A5 A6 A7 A8 A9 A10 A11 A12 A13 A14 A15 A16 A17 A18 A19 A20 A21 A22 A23 D0 D1 D2 D3 D4 D5 D6 D7 D8 D9 D10 D11 D12 D13 D14 D15 D16 D17 D18 D19 D20 D21 D22 D23 : Option Addr} {n0 n1 n2 n3 n4 n5 n6 n7 n8 n9 n10 n11 n12 n13 n14 n15 n16 n17 n18 n19 n20 n21 n22 n23 c0 c1 c2 c3 c4 c5 c6 c7 c8 c9 c10 c11 c12 c13 c14 c15 c16 c17 c18 c19 c20 c21 c22 c23 m0 m1 m2 m3 m4 m5 m6 m7 m8 m9 m10 m11 m12 m13 m14 m15 m16 m17 m18 m19 m20 m21 m22 m23 e0 e1 e2 e3 e4 e5 e6 e7 e8 e9 e10 e11 e12 e13 e14 e15 e16 e17 e18 e19 e20 e21 e22 e23 : Nat} {s0 s1 s2 s3 s4 s5 s6 s7 s8 s9 s10 s11 s12 s13 s14 s15 s16 s17 s18 s19 s20 s21 s22 s23 : Bool} {q0 q1 q2 q3 q4 q5 q6 q7 : Rat} {z0 z1 z2 z3 z4 z5 z6 z7 z8 z9 z10 z11 : Int} {L L0 L1 x y : Nat} {k : Int} {b : Bool} {w : World}
variable {o0 o1 o2 o3 : Option Rat} {l l' : List Sp}
theorem all_some {os : List (Option Rw)} (h : ∀ j, j < os.length → ∃ r, os[j]? = some (some r)) : ∃ l : List Rw, os = l.map some := by
  induction os with
  | nil => exact ⟨[], rfl⟩
  | cons o os ih =>
    obtain ⟨r, hr⟩ := h 0 (by simp)
    obtain ⟨l, hl⟩ := ih fun j hj => by
      obtain ⟨x, hx⟩ := h (j + 1) (by simp; omega)
      exact ⟨x, by simpa using hx⟩
    have hr : o = some r := by simpa using hr
    exact ⟨r :: l, by rw [hr, hl]; rfl⟩
theorem ane_rwe {cs : List Value} {r : Rw} (h : AnE w cs (some r)) : RwE w cs r ∧ Few r := by
  obtain ⟨s0, A0, n0, c0, D0, m0, e0, s1, A1, n1, c1, D1, m1, e1, f0, h0, h1, h2⟩ := h
  rcases h2 with ⟨h2, _⟩ | ⟨da, db, dc, de, h2, h3, r0, r1, r2, r3⟩
  · cases h2
  · injection h2 with h2
    subst h2
    obtain ⟨l0, l1, l2, l3⟩ := h3
    exact ⟨⟨A0, n0, c0, D0, m0, e0, A1, n1, c1, D1, m1, e1, h1, r0, r1, r2, r3⟩, by rw [← raw_len r0]; exact l0, by rw [← raw_len r1]; exact l1, by rw [← raw_len r2]; exact l2, by rw [← raw_len r3]; exact l3⟩
theorem ans_rws {v : Value} {l : List Rw} (h : AnS w v (l.map some)) : RwS w v l ∧ ∀ r ∈ l, Few r := by
  obtain ⟨css, h1, h2⟩ := h
  have key : All2 (RwE w) css l ∧ ∀ r ∈ l, Few r := by
    clear h1
    induction l generalizing css with
    | nil => cases css <;> first | exact ⟨trivial, fun _ h => (by cases h)⟩ | cases h2
    | cons r l ih => cases css with
      | nil => cases h2
      | cons cs css =>
        obtain ⟨k1, k2⟩ := ane_rwe h2.1
        obtain ⟨k3, k4⟩ := ih _ h2.2
        exact ⟨⟨k1, k3⟩, fun x hx => by rcases List.mem_cons.1 hx with e | hx; (subst e; exact k2); exact k4 x hx⟩
  exact ⟨⟨css, h1, key.1⟩, key.2⟩
theorem Is_below {e : Ending} {w' : World} {x : Bool} (h : e = .returned (.bool x) ∧ w' = w) : e = .returned (.bool x) ∧ Below w.heap.size w w' := ⟨h.1, by rw [h.2]; exact Below.refl _ _⟩
theorem pclass_k {v : Value} {q : Rat} {kx : Int} (hS : SpS w L v l) (hok : OkS l) (hsep : SepS l) (hn : l.length ≤ 4096) (hq : RQ w s4 (.slice A4 n4 c4) (.slice D4 m4 e4) q L0) (hL : L ≤ 1000) (hL0 : L0 ≤ 1000) (hk : clsL l q = kx) :
    Calls Tryz.prog 14 #[v, .agg #[.bool s4, .slice A4 n4 c4, .slice D4 m4 e4]] w fun e w' => e = .returned (.tuple #[.int .i64 kx, .nilIface]) ∧ Below w.heap.size w w' := by subst hk; exact pclass_v hS hok hsep hn hq hL hL0
theorem class_k {v : Value} {q : Rat} {kx : Int} (hS : SrS w L v l) (hq : PQ w s4 (.slice A4 n4 c4) (.slice D4 m4 e4) q L0) (hL : L ≤ 100) (hL0 : L0 ≤ 100) (hk : clsL l q = kx) :
    Calls Tryz.prog 19 #[v, .agg #[.bool s4, .slice A4 n4 c4, .slice D4 m4 e4]] w fun e w' => e = .returned (.int .i64 kx) ∧ Below w.heap.size w w' := by subst hk; exact class_v hS hq hL hL0
set_option maxRecDepth 100000 in
set_option maxHeartbeats 16000000 in
theorem spanvalid_any {v : Value} {os : List (Option Rw)} {a9_ : Addr} (hE : w.cell? ⟨0, 0, none⟩ = some (.iface 230 (.pointer (some a9_)))) (hS : AnS w v os) (HT0 : n4 ≤ 4 → ∃ ds, Raw w (.slice A4 n4 c4) ds) (HT1 : m4 ≤ 4 → ∃ ds, Raw w (.slice D4 m4 e4) ds) :
    Calls Tryz.prog 3 #[v, .agg #[.bool s4, .slice A4 n4 c4, .slice D4 m4 e4]] w fun e w' => e = .returned (.bool true) ∧ Below w.heap.size w w' := by
  obtain ⟨A, c, rfl, hc1, hc2⟩ := hS.form
  unfold maxLen at hc2
  have hgl := World.block_lt_of_cell? w _ hE
  have HG := Lib.hid (fun (W : World) (h : Below w.heap.size w W) => (h.cell hgl).trans hE)
  clear hE hgl
  obtain ⟨n9, hn9⟩ : ∃ n, os.length = n := ⟨_, rfl⟩
  rw [hn9] at hc1
  have HN9 := Lib.hid hn9
  have hS9 : AnS w (.slice A n9 c) os := by rw [← hn9]; exact hS
  rw [hn9]
  clear hS hn9
  by_cases h20 : 20 < n9
  · have hd : decide ((20 : Int) < (n9 : Int)) = true := decide_eq_true (by omega)
    clear h20 hS9 HT0 HT1
    go_enter Tryz.func3, Tryz.ntmps3
    go_wp2_with fail
    obtain ⟨W0, hW, b3, hbW, hszW0⟩ := boxes1 w #[.bool s4, .slice A4 n4 c4, .slice D4 m4 e4] 28
    rw [hW]
    clear hW
    have H0 := hbW
    clear hbW
    go_wp2_with fail
    refine (known6_any _).mono ?_
    rintro e w1 ⟨rfl, hb⟩
    replace b3 := b3.below hb
    replace H0 := H0.trans (hb.mono H0.size)
    clear hb
    go_wp2_with fail
    go_returns
    exact ⟨rfl, H0⟩
  · have hd : decide ((20 : Int) < (n9 : Int)) = false := decide_eq_false (by omega)
    have H20 := Lib.hid h20
    by_cases hq : n4 ≤ 4 ∧ m4 ≤ 4
    · obtain ⟨du, hu⟩ := HT0 hq.1
      obtain ⟨dv, hv⟩ := HT1 hq.2
      have HQ := Lib.hid (show decide (n4 ≤ 4 ∧ m4 ≤ 4) = true from decide_eq_true hq)
      have HLU : Hid (du.length ≤ 4 ∧ dv.length ≤ 4) := Lib.hid ⟨by rw [← raw_len hu]; exact hq.1, by rw [← raw_len hv]; exact hq.2⟩
      clear hq HT0 HT1 h20
      go_enter Tryz.func3, Tryz.ntmps3
      go_wp2_with fail
      obtain ⟨W0, hW, b3, bs, hbW, hszW0⟩ := boxes2 w #[.bool s4, .slice A4 n4 c4, .slice D4 m4 e4] #[.bool s4, .slice A4 n4 c4, .slice D4 m4 e4] 28 28
      rw [hW]
      clear hW
      replace hS9 := hS9.below hbW
      replace hu := hu.below hbW
      replace hv := hv.below hbW
      have H0 := hbW
      clear hbW
      refine (smallq4_one bs HQ.out).mono ?_
      rintro e w1 ⟨rfl, hb⟩
      replace hS9 := hS9.below hb
      replace hu := hu.below hb
      replace hv := hv.below hb
      replace b3 := b3.below hb
      replace bs := bs.below hb
      replace H0 := H0.trans (hb.mono H0.size)
      clear hb
      clear bs
      clear hszW0
      go_wp2_with fail
      obtain ⟨wq, hwq⟩ : ∃ W, W = w1 := ⟨_, rfl⟩
      subst hwq
      have HH := Lib.hid H0
      clear H0
      go_loopw [29] (fun t29 wr => ∃ i : Nat, i ≤ n9 ∧ t29 = .int .i64 (i : Int) ∧ (∀ j, j < i → ∃ r, os[j]? = some (some r)) ∧ Below wq.heap.size wq wr) (fun t29 _ => n9 - (intOf t29).toNat)
      case atStart => exact ⟨0, Nat.zero_le _, rfl, fun j hj => absurd hj (Nat.not_lt_zero _), Below.refl _ _⟩
      case round =>
        obtain ⟨i, hi, rfl, hall, H1⟩ := hrel
        have HAL := Lib.hid hall
        clear hall
        have H0 := HH.out.trans (H1.mono HH.out.size)
        replace hS9 := hS9.below H1
        replace hu := hu.below H1
        replace hv := hv.below H1
        replace b3 := b3.below H1
        by_cases hlt : i < n9
        · obtain ⟨o9, hsp⟩ : ∃ s, os[i]? = some s := ⟨_, List.getElem?_eq_getElem (by rw [HN9.out]; exact hlt)⟩
          obtain ⟨g, o, s0, A0, n0, c0, D0, m0, e0, s1, A1, n1, c1, D1, m1, e1, f0, h0, rfl, cc0, cc1, cc2, cc3, cc4, cc5, cc6, cc7, hE0⟩ := hS9.elem hsp
          have HSP := Lib.hid hsp
          clear hsp hS9 hu hv b3
          rcases hE0 with ⟨rfl, hnf⟩ | ⟨da, db, dc, de, rfl, hf4, r0, r1, r2, r3⟩
          · have HF4 := Lib.hid hnf
            clear hnf
            obtain ⟨W5, hW, b6, bl, hbW, hsz⟩ := boxes2 wr #[.bool s0, .slice A0 n0 c0, .slice D0 m0 e0, .bool s1, .slice A1 n1 c1, .slice D1 m1 e1, .bool f0, .bool h0] #[.bool s0, .slice A0 n0 c0, .slice D0 m0 e0, .bool s1, .slice A1 n1 c1, .slice D1 m1 e1] 32 28
            clear hsz
            replace H0 := H0.trans (hbW.mono H0.size)
            have x0 := b6.cell 0 _ rfl
            have x1 := b6.cell 1 _ rfl
            have x2 := b6.cell 2 _ rfl
            have x3 := b6.cell 3 _ rfl
            have x4 := b6.cell 4 _ rfl
            have x5 := b6.cell 5 _ rfl
            have x6 := b6.cell 6 _ rfl
            have x7 := b6.cell 7 _ rfl
            go_wp2_with fail
            clear hW hbW x0 cc0 x1 cc1 x2 cc2 x3 cc3 x4 cc4 x5 cc5 x6 cc6 x7 cc7
            refine (smallq4_f bl HF4.out).mono ?_
            rintro e w200 ⟨rfl, hb⟩
            replace H0 := H0.trans (hb.mono H0.size)
            clear hb
            go_wp2_with fail
            refine (known6_any _).mono ?_
            rintro e w201 ⟨rfl, hb⟩
            replace H0 := H0.trans (hb.mono H0.size)
            clear hb
            go_wp2_with fail
            go_returns
            exact ⟨rfl, H0⟩
          · have l0 : da.length ≤ 4 := by rw [← raw_len r0]; exact hf4.1
            have l1 : db.length ≤ 4 := by rw [← raw_len r1]; exact hf4.2.1
            have l2 : dc.length ≤ 4 := by rw [← raw_len r2]; exact hf4.2.2.1
            have l3 : de.length ≤ 4 := by rw [← raw_len r3]; exact hf4.2.2.2
            obtain ⟨W5, hW, b6, bl, hbW, hsz⟩ := boxes2 wr #[.bool s0, .slice A0 n0 c0, .slice D0 m0 e0, .bool s1, .slice A1 n1 c1, .slice D1 m1 e1, .bool f0, .bool h0] #[.bool s0, .slice A0 n0 c0, .slice D0 m0 e0, .bool s1, .slice A1 n1 c1, .slice D1 m1 e1] 32 28
            clear hsz
            replace H1 := H1.trans (hbW.mono H1.size)
            replace r0 := r0.below hbW
            replace r1 := r1.below hbW
            replace r2 := r2.below hbW
            replace r3 := r3.below hbW
            replace H0 := H0.trans (hbW.mono H0.size)
            have x0 := b6.cell 0 _ rfl
            have x1 := b6.cell 1 _ rfl
            have x2 := b6.cell 2 _ rfl
            have x3 := b6.cell 3 _ rfl
            have x4 := b6.cell 4 _ rfl
            have x5 := b6.cell 5 _ rfl
            have x6 := b6.cell 6 _ rfl
            have x7 := b6.cell 7 _ rfl
            go_wp2_with fail
            clear hW hbW x0 cc0 x1 cc1 x2 cc2 x3 cc3 x4 cc4 x5 cc5 x6 cc6 x7 cc7
            refine (smallq4_t bl hf4).mono ?_
            rintro e w200 ⟨rfl, hb⟩
            replace H1 := H1.trans (hb.mono H1.size)
            replace r0 := r0.below hb
            replace r1 := r1.below hb
            replace r2 := r2.below hb
            replace r3 := r3.below hb
            replace b6 := b6.below hb
            replace bl := bl.below hb
            replace H0 := H0.trans (hb.mono H0.size)
            clear hb
            have cb60 := b6.cell 0 _ rfl
            have cb61 := b6.cell 1 _ rfl
            have cb62 := b6.cell 2 _ rfl
            have cb63 := b6.cell 3 _ rfl
            have cb64 := b6.cell 4 _ rfl
            have cb65 := b6.cell 5 _ rfl
            have cb66 := b6.cell 6 _ rfl
            have cb67 := b6.cell 7 _ rfl
            go_wp2_with fail
            clear bl
            clear cb60 cb61 cb62 cb63 cb64 cb65 cb66 cb67
            refine (read_r r0 r1 r2 r3 l0 l1 l2 l3).mono ?_
            rintro e w201 ⟨hR, hb⟩
            replace H1 := H1.trans (hb.mono H1.size)
            replace r0 := r0.below hb
            replace r1 := r1.below hb
            replace r2 := r2.below hb
            replace r3 := r3.below hb
            replace b6 := b6.below hb
            replace H0 := H0.trans (hb.mono H0.size)
            clear hb
            obtain ⟨s2, A2, n2, c2, D2, m2, e2, s3, A3, n3, c3, D3, m3, e3, f1, h1, rfl, -⟩ := hR
            obtain ⟨kb, hkb⟩ : ∃ k, rwOk s0 da db s1 dc de f0 h0 = k := ⟨_, rfl⟩
            rw [hkb]
            have HKB := Lib.hid hkb
            clear hkb
            obtain ⟨W6, hW, b7, hbW, hsz⟩ := boxes1 w201 #[.bool s2, .slice A2 n2 c2, .slice D2 m2 e2, .bool s3, .slice A3 n3 c3, .slice D3 m3 e3, .bool f1, .bool h1] 39
            clear hsz
            replace H1 := H1.trans (hbW.mono H1.size)
            replace r0 := r0.below hbW
            replace r1 := r1.below hbW
            replace r2 := r2.below hbW
            replace r3 := r3.below hbW
            replace b6 := b6.below hbW
            replace H0 := H0.trans (hbW.mono H0.size)
            have cb60 := b6.cell 0 _ rfl
            have cb61 := b6.cell 1 _ rfl
            have cb62 := b6.cell 2 _ rfl
            have cb63 := b6.cell 3 _ rfl
            have cb64 := b6.cell 4 _ rfl
            have cb65 := b6.cell 5 _ rfl
            have cb66 := b6.cell 6 _ rfl
            have cb67 := b6.cell 7 _ rfl
            go_wp2_with fail
            clear cb60 cb61 cb62 cb63 cb64 cb65 cb66 cb67
            clear hW hbW b7
            refine (vspan_b r0 r1 r2 r3 l0 l1 l2 l3 HKB.out).mono ?_
            rintro e w202 ⟨rfl, hb⟩
            replace H1 := H1.trans (hb.mono H1.size)
            replace r0 := r0.below hb
            replace r1 := r1.below hb
            replace r2 := r2.below hb
            replace r3 := r3.below hb
            replace b6 := b6.below hb
            replace H0 := H0.trans (hb.mono H0.size)
            clear hb
            clear b6 r0 r1 r2 r3
            cases kb
            · go_wp2_with fail
              go_roundw
              case rel => exact ⟨i + 1, by omega, by go_num, fun j hj => by rcases Nat.lt_or_ge j i with h9 | h9; exact HAL.out j h9; exact ⟨_, by rw [show j = i by omega]; exact HSP.out⟩, H1⟩
              case measure => simp [intOf]; omega
            · go_wp2_with fail
              go_roundw
              case rel => exact ⟨i + 1, by omega, by go_num, fun j hj => by rcases Nat.lt_or_ge j i with h9 | h9; exact HAL.out j h9; exact ⟨_, by rw [show j = i by omega]; exact HSP.out⟩, H1⟩
              case measure => simp [intOf]; omega
        · obtain rfl : i = n9 := by omega
          obtain ⟨l, hl⟩ := all_some (by rw [HN9.out]; exact HAL.out)
          rw [hl] at hS9
          obtain ⟨kS, hF⟩ := ans_rws hS9
          have HF := Lib.hid hF
          have HNL : Hid (l.length ≤ 4096) := Lib.hid (by have h1 := HN9.out; rw [hl, List.length_map] at h1; have h2 := H20.out; omega)
          obtain ⟨l0, l1⟩ := HLU.out
          clear hS9 hF hl H1 HAL HH HN9 HLU H20 hi hlt
          go_wp2_with fail
          refine (readset_r kS HF.out HNL.out).mono ?_
          rintro e w400 ⟨hT, hb⟩
          replace kS := kS.below hb
          replace hu := hu.below hb
          replace hv := hv.below hb
          replace b3 := b3.below hb
          replace H0 := H0.trans (hb.mono H0.size)
          clear hb
          rcases hT with ⟨hOK, y, rfl, kY⟩ | ⟨hNO, y, rfl⟩
          · have kM := rws_sps kS HF.out hOK.1
            have HO := Lib.hid (allok_ok hOK.1)
            have HSE := Lib.hid hOK.2
            have HNM : Hid ((l.map Rw.sp).length ≤ 4096) := Lib.hid (by rw [List.length_map]; exact HNL.out)
            clear kS hOK
            generalize l.map Rw.sp = M at kM kY HO HSE HNM
            obtain ⟨kx, hkx⟩ : ∃ k, clsL M (rq s4 du dv) = k := ⟨_, rfl⟩
            have HKX := Lib.hid hkx
            have hkk : (kx == kx) = true := beq_self_eq_true kx
            clear hkx
            have cb30 := b3.cell 0 _ rfl
            have cb31 := b3.cell 1 _ rfl
            have cb32 := b3.cell 2 _ rfl
            go_wp2_with fail
            clear cb30 cb31 cb32
            refine (pclass_k kM HO.out HSE.out HNM.out (raw_rq (L := 4) hu hv l0 l1) (by decide) (by decide) HKX.out).mono ?_
            rintro e w401 ⟨rfl, hb⟩
            replace hu := hu.below hb
            replace hv := hv.below hb
            replace kM := kM.below hb
            replace kY := kY.below hb
            replace b3 := b3.below hb
            replace H0 := H0.trans (hb.mono H0.size)
            clear hb
            go_wp2_with fail
            refine (known6_any _).mono ?_
            rintro e w402 ⟨rfl, hb⟩
            replace hu := hu.below hb
            replace hv := hv.below hb
            replace kM := kM.below hb
            replace kY := kY.below hb
            replace b3 := b3.below hb
            replace H0 := H0.trans (hb.mono H0.size)
            clear hb
            go_wp2_with fail
            refine (valid_v kM HO.out HSE.out HNM.out (by decide)).mono ?_
            rintro e w403 ⟨rfl, hb⟩
            replace hu := hu.below hb
            replace hv := hv.below hb
            replace kM := kM.below hb
            replace kY := kY.below hb
            replace b3 := b3.below hb
            replace H0 := H0.trans (hb.mono H0.size)
            clear hb
            have cb30 := b3.cell 0 _ rfl
            have cb31 := b3.cell 1 _ rfl
            have cb32 := b3.cell 2 _ rfl
            go_wp2_with fail
            clear cb30 cb31 cb32
            refine (refq_v (raw_rq (L := 4) hu hv l0 l1) (by decide)).mono ?_
            rintro e w404 ⟨s6, A6, n6, c6, D6, m6, e6, rfl, k6, hb⟩
            replace hu := hu.below hb
            replace hv := hv.below hb
            replace kM := kM.below hb
            replace kY := kY.below hb
            replace b3 := b3.below hb
            replace H0 := H0.trans (hb.mono H0.size)
            clear hb
            go_wp2_with fail
            refine (class_k kY k6 (by decide) (by decide) HKX.out).mono ?_
            rintro e w405 ⟨rfl, hb⟩
            replace hu := hu.below hb
            replace hv := hv.below hb
            replace kM := kM.below hb
            replace kY := kY.below hb
            replace k6 := k6.below hb
            replace b3 := b3.below hb
            replace H0 := H0.trans (hb.mono H0.size)
            clear hb
            go_wp2_with fail
            go_returns
            exact ⟨rfl, H0⟩
          · have HNO := Lib.hid hNO
            clear hNO
            have cb30 := b3.cell 0 _ rfl
            have cb31 := b3.cell 1 _ rfl
            have cb32 := b3.cell 2 _ rfl
            go_wp2_with fail
            clear cb30 cb31 cb32
            refine (pclass_f kS HF.out HNL.out HNO.out (HG.out _ H0)).mono ?_
            rintro e w401 ⟨rfl, hb⟩
            replace kS := kS.below hb
            replace hu := hu.below hb
            replace hv := hv.below hb
            replace b3 := b3.below hb
            replace H0 := H0.trans (hb.mono H0.size)
            clear hb
            go_wp2_with fail
            refine (union_f kS HF.out HNL.out HNO.out (HG.out _ H0)).mono ?_
            rintro e w402 ⟨rfl, hb⟩
            replace kS := kS.below hb
            replace hu := hu.below hb
            replace hv := hv.below hb
            replace b3 := b3.below hb
            replace H0 := H0.trans (hb.mono H0.size)
            clear hb
            go_wp2_with fail
            refine (compl_f kS HF.out HNL.out HNO.out (HG.out _ H0)).mono ?_
            rintro e w403 ⟨rfl, hb⟩
            replace kS := kS.below hb
            replace hu := hu.below hb
            replace hv := hv.below hb
            replace b3 := b3.below hb
            replace H0 := H0.trans (hb.mono H0.size)
            clear hb
            go_wp2_with fail
            refine (known6_any _).mono ?_
            rintro e w404 ⟨rfl, hb⟩
            replace kS := kS.below hb
            replace hu := hu.below hb
            replace hv := hv.below hb
            replace b3 := b3.below hb
            replace H0 := H0.trans (hb.mono H0.size)
            clear hb
            go_wp2_with fail
            refine (valid_f kS HF.out HNL.out HNO.out).mono ?_
            rintro e w405 ⟨rfl, hb⟩
            replace kS := kS.below hb
            replace hu := hu.below hb
            replace hv := hv.below hb
            replace b3 := b3.below hb
            replace H0 := H0.trans (hb.mono H0.size)
            clear hb
            clear kS
            clear hu
            clear hv
            clear b3
            have cE := HG.out _ H0
            go_wp2_with fail
            clear cE
            refine ((is_same a9_ _).mono (fun _ _ h => Is_below h)).mono ?_
            rintro e w406 ⟨rfl, hb⟩
            replace H0 := H0.trans (hb.mono H0.size)
            clear hb
            have cE := HG.out _ H0
            go_wp2_with fail
            clear cE
            refine ((is_same a9_ _).mono (fun _ _ h => Is_below h)).mono ?_
            rintro e w407 ⟨rfl, hb⟩
            replace H0 := H0.trans (hb.mono H0.size)
            clear hb
            have cE := HG.out _ H0
            go_wp2_with fail
            clear cE
            refine ((is_same a9_ _).mono (fun _ _ h => Is_below h)).mono ?_
            rintro e w408 ⟨rfl, hb⟩
            replace H0 := H0.trans (hb.mono H0.size)
            clear hb
            go_wp2_with fail
            go_returns
            exact ⟨rfl, H0⟩
    · have HQ := Lib.hid (show decide (n4 ≤ 4 ∧ m4 ≤ 4) = false from decide_eq_false hq)
      clear hq HT0 HT1 hS9 h20 H20
      go_enter Tryz.func3, Tryz.ntmps3
      go_wp2_with fail
      obtain ⟨W0, hW, b3, bs, hbW, hszW0⟩ := boxes2 w #[.bool s4, .slice A4 n4 c4, .slice D4 m4 e4] #[.bool s4, .slice A4 n4 c4, .slice D4 m4 e4] 28 28
      rw [hW]
      clear hW
      have H0 := hbW
      clear hbW
      refine (smallq4_one bs HQ.out).mono ?_
      rintro e w1 ⟨rfl, hb⟩
      replace b3 := b3.below hb
      replace bs := bs.below hb
      replace H0 := H0.trans (hb.mono H0.size)
      clear hb
      go_wp2_with fail
      refine (known6_any _).mono ?_
      rintro e w2 ⟨rfl, hb⟩
      replace b3 := b3.below hb
      replace bs := bs.below hb
      replace H0 := H0.trans (hb.mono H0.size)
      clear hb
      go_wp2_with fail
      go_returns
      exact ⟨rfl, H0⟩
end
end Go.Proofs.YtpgkkkodniiilaaGreatDoor
