/-
  The reference's ends.
-/
import Derived.Test.YtpgkkkodniiilaaGreatDoorWSq
import Derived.Test.YtpgkkkodniiilaaGreatDoorWPP
import Derived.IntWalk
import Derived.Deep.Cut
namespace Go.Proofs.YtpgkkkodniiilaaGreatDoor
open List (getElem_toArray getElem_cons_succ getElem_cons_zero setIfInBounds_toArray set_cons_zero set_cons_succ)
open Go.RowKit
section
variable {f0 h0 f1 h1 f2 h2 f3 h3 f4 h4 f5 h5 f6 h6 f7 h7 f8 h8 f9 h9 f10 h10 f11 h11 : Bool} {A0 A1 A4 A9 D0 D1 D4 : Option Addr} {n0 n1 n4 c0 c1 c4 c9 m0 m1 m4 e0 e1 e2 e3 e4 e7 e8 : Nat} {s0 s1 s4 : Bool} {q0 q1 q2 q3 q4 q5 q6 q7 : Rat} {z0 z1 z2 z3 z4 z5 z6 z7 z8 z9 z10 z11 : Int} {L L0 L1 x y : Nat} {k : Int} {b : Bool} {w : World}
variable {o0 o1 o2 o3 : Option Rat} {l l' : List Sp}
/-- The ends of a span, one behind the other, put among ascending numbers. -/
def stepT (s : Sp) (cs : List Rat) : Nat → List Rat
  | 0 => cs
  | 1 => (match s.lo with | none => cs | some a => insT a cs)
  | _ => (match s.hi with | none => (match s.lo with | none => cs | some a => insT a cs) | some b => insT b (match s.lo with | none => cs | some a => insT a cs))
theorem step1_no {s : Sp} {cs : List Rat} (h : s.lo = none) : stepT s cs 1 = stepT s cs 0 := by simp [stepT, h]
theorem step1_yes {s : Sp} {cs : List Rat} {p : Rat} (h : s.lo = some p) : stepT s cs 1 = insT p (stepT s cs 0) := by simp [stepT, h]
theorem step2_no {s : Sp} {cs : List Rat} (h : s.hi = none) : stepT s cs 2 = stepT s cs 1 := by simp [stepT, h]
theorem step2_yes {s : Sp} {cs : List Rat} {p : Rat} (h : s.hi = some p) : stepT s cs 2 = insT p (stepT s cs 1) := by simp [stepT, h]
theorem step2_ends {l : List Sp} {i : Nat} {s : Sp} (h : l[i]? = some s) : stepT s (endsT [] (l.take i)) 2 = endsT [] (l.take (i + 1)) := by
  rw [List.take_add_one, h]
  show _ = endsT [] (l.take i ++ [s])
  rw [endsT_snoc]; rfl
/-- No number, and no memory, or some. -/
def NilO (A : Option Addr) (c : Nat) (cs : List Rat) : Prop := (cs = [] ∧ A = none ∧ c = 0) ∨ 0 < cs.length
theorem QS.addr {A : Option Addr} {n c : Nat} {cs : List Rat} (h : QS w L (.slice A n c) cs) (hp : 0 < cs.length) : ∃ g o, A = some ⟨g, o, none⟩ := by
  obtain ⟨css, ⟨_, A', c', e1, _, _, h5⟩, ha⟩ := h
  injection e1 with e1
  subst e1
  obtain ⟨g, o, e2, _⟩ := h5 (by have := All2.len ha; rintro rfl; simp at this; omega)
  exact ⟨g, o, e2⟩
theorem QS.ins {w' : World} {v' : Value} {cs : List Rat} {css : List (List Value)} {k : Nat} {x : List Value} {p : Rat} (hr : ReadR w' 3 v' (css.take k ++ ([x] ++ css.drop k))) (ha : QL w' L css cs) (hx : QE w' L x p) : QS w' L v' (cs.take k ++ p :: cs.drop k) :=
  ⟨_, hr, All2.app (All2.take ha k) (show All2 (QE w' L) (x :: css.drop k) (p :: cs.drop k) from ⟨hx, All2.drop ha k⟩)⟩
theorem read_none (A : Option Addr) (c : Nat) (hc : c ≤ maxLen) : ReadR w 3 (.slice A 0 c) [] := ⟨fun x hx => (by cases hx), A, c, rfl, Nat.zero_le _, hc, fun h => absurd rfl h⟩
theorem part_low {g o n c k : Nat} {css : List (List Value)} (h : ReadR w 3 (.slice (some ⟨g, o, none⟩) n c) css) (hk : k ≤ n) : ReadR w 3 (.slice (some ⟨g, o, none⟩) k k) (css.take k) := by
  have h1 := h.flat
  have h2 := h.part (i := 0) (j := k) (m := k) (Nat.zero_le _) hk (Nat.le_refl _) (by omega)
  simpa [Addr.add_lit] using h2
theorem part_high {g o n c k : Nat} {css : List (List Value)} (h : ReadR w 3 (.slice (some ⟨g, o, none⟩) n c) css) (hk : k ≤ n) : ReadR w 3 (.slice (some ⟨g, o + k * 3, none⟩) (n - k) (c - k)) (css.drop k) := by
  have h1 := h.flat
  have h2 := h.part (i := k) (j := n) (m := c) hk (Nat.le_refl _) (by omega) (Nat.le_refl _)
  have h3 : css.take n = css := List.take_of_length_le (by omega)
  rw [h3] at h2
  simpa [Addr.add_lit] using h2
theorem step_len (s : Sp) (cs : List Rat) (j : Nat) : (stepT s cs j).length ≤ cs.length + 2 := by
  have h1 : (match s.lo with | none => cs | some a => insT a cs).length ≤ cs.length + 1 := by
    cases s.lo with
    | none => simp
    | some a => exact insT_len a cs
  match j with
  | 0 => show cs.length ≤ _; omega
  | 1 => show (match s.lo with | none => cs | some a => insT a cs).length ≤ _; omega
  | j + 2 =>
    show (match s.hi with | none => (match s.lo with | none => cs | some a => insT a cs) | some b => insT b (match s.lo with | none => cs | some a => insT a cs)).length ≤ _
    cases s.hi with
    | none => show (match s.lo with | none => cs | some a => insT a cs).length ≤ _; omega
    | some b => have := insT_len b (match s.lo with | none => cs | some a => insT a cs); show (insT b _).length ≤ _; omega
set_option maxRecDepth 100000 in
set_option maxHeartbeats 4000000 in
theorem ends_v {v : Value} (hS : SrS w L v l) (hn : l.length ≤ 1000) (hL : L ≤ 40) :
    Calls Tryz.prog 65 #[v] w fun e w' => ∃ y, e = .returned y ∧ QS w' L y (endsT [] l) ∧ Below w.heap.size w w' := by
  obtain ⟨A, c, rfl, hc1, hc2⟩ := hS.form
  unfold maxLen at hc2
  go_enter Tryz.func65, Tryz.ntmps65
  go_wp2_with fail
  go_loopw [3, 11] (fun t3 t11 wr => ∃ (i : Nat) (A9 : Option Addr) (c9 : Nat) (cs : List Rat), i ≤ l.length ∧ t11 = .int .i64 i ∧ t3 = .slice A9 cs.length c9 ∧ QS wr L (.slice A9 cs.length c9) cs ∧ NilO A9 c9 cs ∧ cs = endsT [] (l.take i) ∧ Below w.heap.size w wr) (fun _ t11 _ => l.length - (intOf t11).toNat)
  case atStart => exact ⟨0, none, 0, [], Nat.zero_le _, rfl, rfl, QS.nil _ _, .inl ⟨rfl, rfl, rfl⟩, rfl, Below.refl _ _⟩
  case round =>
    obtain ⟨i, A9, c9, cs, hi, rfl, rfl, hQ, hN, hcs, H0⟩ := hrel
    obtain ⟨wq, hwq⟩ : ∃ W, W = wr := ⟨_, rfl⟩
    subst hwq
    have HCS := Lib.hid hcs
    clear hcs
    by_cases hlt : i < l.length
    · obtain ⟨sp, hsp⟩ : ∃ s, l[i]? = some s := ⟨_, List.getElem?_eq_getElem hlt⟩
      obtain ⟨g, o, s0, A0, n0, c0, D0, m0, e0, s1, A1, n1, c1, D1, m1, e1, f0, h0, rfl, cc0, cc1, cc2, cc3, cc4, cc5, cc6, cc7, y0, y1⟩ := hS.elem hsp
      have HSE := Lib.hid (step2_ends hsp)
      have hcl : cs.length ≤ 2 * i := by have h1 := (endsT_spec (l.take i) [] trivial).2.2.2.1; rw [← HCS.out] at h1; have := List.length_take_le i l; simp at h1; omega
      have bc0 : CellF w _ _ := cc0
      have bc1 : CellF w _ _ := cc1
      have bc2 : CellF w _ _ := cc2
      have bc3 : CellF w _ _ := cc3
      have bc4 : CellF w _ _ := cc4
      have bc5 : CellF w _ _ := cc5
      have bc6 : CellF w _ _ := cc6
      have bc7 : CellF w _ _ := cc7
      clear hS hsp cc0 cc1 cc2 cc3 cc4 cc5 cc6 cc7
      have dc0 := (bc0.below H0).eq
      have dc1 := (bc1.below H0).eq
      have dc2 := (bc2.below H0).eq
      have dc3 := (bc3.below H0).eq
      have dc4 := (bc4.below H0).eq
      have dc5 := (bc5.below H0).eq
      have dc6 := (bc6.below H0).eq
      have dc7 := (bc7.below H0).eq
      clear bc0 bc1 bc2 bc3 bc4 bc5 bc6 bc7
      obtain ⟨W0, hW0, b5, hb5, hs5⟩ := boxes1 wq #[.bool s0, .slice A0 n0 c0, .slice D0 m0 e0, .bool s1, .slice A1 n1 c1, .slice D1 m1 e1, .bool f0, .bool h0] 39
      replace hQ := hQ.below hb5
      replace H0 := H0.trans (hb5.mono H0.size)
      clear hs5 hb5
      obtain ⟨x0, x1, x2, x3, x4, x5, x6, x7⟩ := b5.cells8
      obtain ⟨W1, hW1, b19, hb19, hs19⟩ := boxes1 W0 #[.bool s0, .slice A0 n0 c0, .slice D0 m0 e0, .bool s1, .slice A1 n1 c1, .slice D1 m1 e1] 37
      replace hQ := hQ.below hb19
      replace b5 := b5.below hb19
      replace H0 := H0.trans (hb19.mono H0.size)
      clear hs19 hb19
      go_wp2_with fail
      clear hW0 hW1 x0 dc0 x1 dc1 x2 dc2 x3 dc3 x4 dc4 x5 dc5 x6 dc6 x7 dc7
      go_loopw [3, 21] (fun t3 t21 wx => ∃ (j : Nat) (A9 : Option Addr) (c9 : Nat) (ds : List Rat), j ≤ 2 ∧ t21 = .int .i64 (j : Int) ∧ t3 = .slice A9 ds.length c9 ∧ QS wx L (.slice A9 ds.length c9) ds ∧ NilO A9 c9 ds ∧ ds = stepT sp cs j ∧ Box wx wq.heap.size #[.bool s0, .slice A0 n0 c0, .slice D0 m0 e0, .bool s1, .slice A1 n1 c1, .slice D1 m1 e1, .bool f0, .bool h0] 39 ∧ Box wx W0.heap.size #[.bool s0, .slice A0 n0 c0, .slice D0 m0 e0, .bool s1, .slice A1 n1 c1, .slice D1 m1 e1] 37 ∧ Below w.heap.size w wx) (fun _ t21 _ => 2 - (intOf t21).toNat)
      case atStart => exact ⟨0, _, _, cs, by omega, rfl, rfl, hQ, hN, rfl, b5, b19, H0⟩
      case round =>
        clear hQ hN b5 b19 H0
        obtain ⟨j, A9, c9, ds, hj, rfl, rfl, hQ, hN, hds, b5, b19, H0⟩ := hrel
        obtain ⟨wx, hwx⟩ : ∃ W, W = wr := ⟨_, rfl⟩
        subst hwx
        have HDL : Hid (ds.length ≤ 90000) := Lib.hid (by have h1 := step_len sp cs j; rw [← hds] at h1; omega)
        rcases (show j = 0 ∨ j = 1 ∨ j = 2 by omega) with rfl | rfl | rfl
        · simp only [show ((0 : Nat) : Int) = 0 from rfl]
          have HDS := Lib.hid hds
          clear hds
          have kE := y0.below H0
          rcases hE : sp.lo with _ | p
          · have e7 := kE.no hE
            subst e7
            clear kE
            obtain ⟨z0, z1, z2, z3, z4, z5⟩ := b19.cells6
            obtain ⟨W2, hW2, b7, hb7, hs7⟩ := boxes1 wx #[.bool s0, .slice A0 n0 c0, .slice D0 m0 e0] 37
            replace hQ := hQ.below hb7
            replace b5 := b5.below hb7
            replace b19 := b19.below hb7
            replace H0 := H0.trans (hb7.mono H0.size)
            obtain ⟨x0, x1, x2, x3, x4, x5, x6, x7⟩ := b5.cells8
            clear hs7 hb7
            go_wp2_with fail
            clear hW2 b7
            clear x0 x1 x2 x3 x4 x5 x6 x7 z0 z1 z2 z3 z4 z5
            go_roundw
            case rel => exact ⟨1, _, _, _, by omega, by go_num, rfl, hQ, hN, by rw [step1_no hE]; exact HDS.out, b5, b19, H0⟩
            case measure => simp [intOf]
          · obtain ⟨e7, kp⟩ := kE.yes hE
            subst e7
            clear kE
            obtain ⟨z0, z1, z2, z3, z4, z5⟩ := b19.cells6
            obtain ⟨W2, hW2, b7, hb7, hs7⟩ := boxes1 wx #[.bool s0, .slice A0 n0 c0, .slice D0 m0 e0] 37
            replace hQ := hQ.below hb7
            replace b5 := b5.below hb7
            replace b19 := b19.below hb7
            replace kp := kp.below hb7
            replace H0 := H0.trans (hb7.mono H0.size)
            obtain ⟨x0, x1, x2, x3, x4, x5, x6, x7⟩ := b5.cells8
            clear hs7 hb7
            go_wp2_with fail
            clear hW2
            clear x0 x1 x2 x3 x4 x5 x6 x7 z0 z1 z2 z3 z4 z5
            go_loopw [8] (fun t8 wy => ∃ k : Nat, k ≤ ds.length ∧ t8 = .int .i64 (k : Int) ∧ (∀ j c, j < k → ds[j]? = some c → c < p) ∧ QS wy L (.slice A9 ds.length c9) ds ∧ Box wy wq.heap.size #[.bool s0, .slice A0 n0 c0, .slice D0 m0 e0, .bool s1, .slice A1 n1 c1, .slice D1 m1 e1, .bool false, .bool h0] 39 ∧ Box wy W0.heap.size #[.bool s0, .slice A0 n0 c0, .slice D0 m0 e0, .bool s1, .slice A1 n1 c1, .slice D1 m1 e1] 37 ∧ Box wy wx.heap.size #[.bool s0, .slice A0 n0 c0, .slice D0 m0 e0] 37 ∧ PQ wy s0 (.slice A0 n0 c0) (.slice D0 m0 e0) p L ∧ Below w.heap.size w wy) (fun t8 _ => ds.length - (intOf t8).toNat)
            case atStart => exact ⟨0, Nat.zero_le _, rfl, fun j c h => absurd h (Nat.not_lt_zero _), hQ, b5, b19, b7, kp, H0⟩
            case round =>
              clear hQ b5 b19 b7 kp H0
              obtain ⟨k, hk, rfl, hbf, hQ, b5, b19, b7, kp, H0⟩ := hrel
              have HBF := Lib.hid hbf
              clear hbf
              have hdl : ds.length ≤ 100000 := by have := HDL.out; omega
              by_cases hlt : k < ds.length
              · obtain ⟨c, hc⟩ : ∃ c, ds[k]? = some c := ⟨_, List.getElem?_eq_getElem hlt⟩
                obtain ⟨g, o, s4, A4, n4, c4, D4, m4, e4, rfl, cc0, cc1, cc2, kc⟩ := hQ.elem hc
                have p0 : CellF wr _ _ := cc0
                have p1 : CellF wr _ _ := cc1
                have p2 : CellF wr _ _ := cc2
                clear cc0 cc1 cc2
                have HCK := Lib.hid hc
                clear hc
                obtain ⟨kk, hkk⟩ : ∃ k, rsg (c - p) = k := ⟨_, rfl⟩
                have HK := Lib.hid hkk
                clear hkk
                have el : decide ((k : Int) < (ds.length : Int)) = true := decide_eq_true (by omega)
                have em : (((k : Nat) : Int) == (ds.length : Int)) = false := by rw [beq_eq_false_iff_ne]; omega
                go_wp2_with fail
                have hD := drawn_below wr
                replace hQ := hQ.below hD
                replace kp := kp.below hD
                replace kc := kc.below hD
                replace p0 := p0.below hD
                replace p1 := p1.below hD
                replace p2 := p2.below hD
                replace b5 := b5.below hD
                replace b19 := b19.below hD
                replace b7 := b7.below hD
                replace H0 := H0.trans (hD.mono H0.size)
                clear hD
                refine wp_region_noPanic ?_
                refine wp_region_held_drew (S := (fun V => V.cell? ⟨wx.heap.size, 0, none⟩ = some (.bool s0) ∧ V.cell? ⟨wx.heap.size, 1, none⟩ = some (.slice A0 n0 c0) ∧ V.cell? ⟨wx.heap.size, 2, none⟩ = some (.slice D0 m0 e0) ∧ V.cell? ⟨g, o + k * 3, none⟩ = some (.bool s4) ∧ V.cell? ⟨g, o + k * 3 + 1, none⟩ = some (.slice A4 n4 c4) ∧ V.cell? ⟨g, o + k * 3 + 2, none⟩ = some (.slice D4 m4 e4))) (by kernel_rfl) ⟨b7.cell 0 _ rfl, b7.cell 1 _ rfl, b7.cell 2 _ rfl, p0.eq, p1.eq, p2.eq⟩ (fun hHeld => ?_)
                generalize wr.drew = v500 at H0 hHeld hQ kp kc p0 p1 p2 b5 b19 b7 ⊢
                refine todo [0, 1, 2, 3, 4, 5, 6, 7, 8, 9] ?_
                iterate 10
                  refine tkT ?_ rfl (by kernel_rfl) (fun _ _ _ h => h) (by rfl) (by assumption) ?_ ?_
                  rotate_left
                  · (intro w hSw; (try dsimp only at hSw); go_simp; (try with_reducible rfl))
                  (try simp only [getElem_toArray, getElem_cons_succ, getElem_cons_zero, Act.put, setIfInBounds_toArray, set_cons_zero, set_cons_succ])
                refine tdone ?_
                refine rd1 10 (by kernel_rfl) rfl (fun K hK => ?_)
                go_simp
                go_at_call 43
                refine (nqc_v kc kp (by omega) (by omega) HK.out).mono ?_
                rintro e w501 ⟨rfl, hb⟩
                replace hQ := hQ.below hb
                replace kp := kp.below hb
                replace kc := kc.below hb
                replace p0 := p0.below hb
                replace p1 := p1.below hb
                replace p2 := p2.below hb
                replace b5 := b5.below hb
                replace b19 := b19.below hb
                replace b7 := b7.below hb
                replace H0 := H0.trans (hb.mono H0.size)
                clear hb
                go_wp2_with fail
                refine hK.out _ _ ⟨b7.cell 0 _ rfl, b7.cell 1 _ rfl, b7.cell 2 _ rfl, p0.eq, p1.eq, p2.eq⟩ (fun hHeld => ?_)
                clear hK K
                (try simp only [getElem_toArray, getElem_cons_succ, getElem_cons_zero, Act.put, setIfInBounds_toArray, set_cons_zero, set_cons_succ])
                refine todo [11, 12] ?_
                iterate 2
                  refine tkT ?_ rfl (by kernel_rfl) (fun _ _ _ h => h) (by rfl) (by assumption) ?_ ?_
                  rotate_left
                  · (intro w hSw; (try dsimp only at hSw); go_simp; (try with_reducible rfl))
                  (try simp only [getElem_toArray, getElem_cons_succ, getElem_cons_zero, Act.put, setIfInBounds_toArray, set_cons_zero, set_cons_succ])
                refine tdone ?_
                refine wpAnyH_done (by kernel_rfl) ?_ _
                refine NoPanic.normal ?_
                rcases rsg_tri c p with ⟨hs, hcp⟩ | ⟨hs, hcp⟩ | ⟨hs, hcp⟩ <;> rw [HK.out] at hs <;> subst hs
                · go_wp2_with fail
                  go_roundw
                  case rel => exact ⟨k + 1, by omega, by go_num, fun j d hj hd => (Nat.lt_succ_iff_lt_or_eq.1 hj).elim (fun h => HBF.out j d h hd) (fun h => by subst h; rw [HCK.out] at hd; injection hd with hd; subst hd; exact hcp), hQ, b5, b19, b7, kp, H0⟩
                  case measure => simp [intOf]; omega
                · have HIN : Hid (insT p ds = ds) := Lib.hid (by rw [insT_at (k := k) (by omega) HBF.out (fun d hd => by rw [HCK.out] at hd; injection hd with hd; subst hd; rw [hcp]; exact Rat.lt_irrefl), HCK.out, hcp, if_pos rfl])
                  go_wp2_with fail
                  have hD := drawn_below w501
                  replace hQ := hQ.below hD
                  replace kp := kp.below hD
                  replace kc := kc.below hD
                  replace p0 := p0.below hD
                  replace p1 := p1.below hD
                  replace p2 := p2.below hD
                  replace b5 := b5.below hD
                  replace b19 := b19.below hD
                  replace b7 := b7.below hD
                  replace H0 := H0.trans (hD.mono H0.size)
                  clear hD
                  refine wp_region_noPanic ?_
                  refine wp_region_held_drew (S := (fun V => V.cell? ⟨wx.heap.size, 0, none⟩ = some (.bool s0) ∧ V.cell? ⟨wx.heap.size, 1, none⟩ = some (.slice A0 n0 c0) ∧ V.cell? ⟨wx.heap.size, 2, none⟩ = some (.slice D0 m0 e0) ∧ V.cell? ⟨g, o + k * 3, none⟩ = some (.bool s4) ∧ V.cell? ⟨g, o + k * 3 + 1, none⟩ = some (.slice A4 n4 c4) ∧ V.cell? ⟨g, o + k * 3 + 2, none⟩ = some (.slice D4 m4 e4))) (by kernel_rfl) ⟨b7.cell 0 _ rfl, b7.cell 1 _ rfl, b7.cell 2 _ rfl, p0.eq, p1.eq, p2.eq⟩ (fun hHeld => ?_)
                  generalize w501.drew = v502 at H0 hHeld hQ kp kc p0 p1 p2 b5 b19 b7 ⊢
                  refine todo [0, 1, 2, 3, 4, 5, 6, 7, 8, 9] ?_
                  iterate 10
                    refine tkT ?_ rfl (by kernel_rfl) (fun _ _ _ h => h) (by rfl) (by assumption) ?_ ?_
                    rotate_left
                    · (intro w hSw; (try dsimp only at hSw); go_simp; (try with_reducible rfl))
                    (try simp only [getElem_toArray, getElem_cons_succ, getElem_cons_zero, Act.put, setIfInBounds_toArray, set_cons_zero, set_cons_succ])
                  refine tdone ?_
                  refine rd1 10 (by kernel_rfl) rfl (fun K hK => ?_)
                  go_simp
                  go_at_call 43
                  refine (nqc_v kc kp (by omega) (by omega) HK.out).mono ?_
                  rintro e w503 ⟨rfl, hb⟩
                  replace hQ := hQ.below hb
                  replace kp := kp.below hb
                  replace kc := kc.below hb
                  replace p0 := p0.below hb
                  replace p1 := p1.below hb
                  replace p2 := p2.below hb
                  replace b5 := b5.below hb
                  replace b19 := b19.below hb
                  replace b7 := b7.below hb
                  replace H0 := H0.trans (hb.mono H0.size)
                  clear hb
                  go_wp2_with fail
                  refine hK.out _ _ ⟨b7.cell 0 _ rfl, b7.cell 1 _ rfl, b7.cell 2 _ rfl, p0.eq, p1.eq, p2.eq⟩ (fun hHeld => ?_)
                  clear hK K
                  (try simp only [getElem_toArray, getElem_cons_succ, getElem_cons_zero, Act.put, setIfInBounds_toArray, set_cons_zero, set_cons_succ])
                  refine todo [11, 12] ?_
                  iterate 2
                    refine tkT ?_ rfl (by kernel_rfl) (fun _ _ _ h => h) (by rfl) (by assumption) ?_ ?_
                    rotate_left
                    · (intro w hSw; (try dsimp only at hSw); go_simp; (try with_reducible rfl))
                    (try simp only [getElem_toArray, getElem_cons_succ, getElem_cons_zero, Act.put, setIfInBounds_toArray, set_cons_zero, set_cons_succ])
                  refine tdone ?_
                  refine wpAnyH_done (by kernel_rfl) ?_ _
                  refine NoPanic.normal ?_
                  go_wp2_with fail
                  go_roundw
                  case rel => exact ⟨1, _, _, _, by omega, by go_num, rfl, hQ, hN, by rw [step1_yes hE, ← HDS.out, HIN.out], b5, b19, H0⟩
                  case measure => simp [intOf]
                · have HIN : Hid (insT p ds = ds.take k ++ p :: ds.drop k) := Lib.hid (by rw [insT_at (k := k) (by omega) HBF.out (fun d hd => by rw [HCK.out] at hd; injection hd with hd; subst hd; grind), HCK.out, if_neg (fun he => by injection he with he; grind)])
                  go_wp2_with fail
                  have hD := drawn_below w501
                  replace hQ := hQ.below hD
                  replace kp := kp.below hD
                  replace kc := kc.below hD
                  replace p0 := p0.below hD
                  replace p1 := p1.below hD
                  replace p2 := p2.below hD
                  replace b5 := b5.below hD
                  replace b19 := b19.below hD
                  replace b7 := b7.below hD
                  replace H0 := H0.trans (hD.mono H0.size)
                  clear hD
                  refine wp_region_noPanic ?_
                  refine wp_region_held_drew (S := (fun V => V.cell? ⟨wx.heap.size, 0, none⟩ = some (.bool s0) ∧ V.cell? ⟨wx.heap.size, 1, none⟩ = some (.slice A0 n0 c0) ∧ V.cell? ⟨wx.heap.size, 2, none⟩ = some (.slice D0 m0 e0) ∧ V.cell? ⟨g, o + k * 3, none⟩ = some (.bool s4) ∧ V.cell? ⟨g, o + k * 3 + 1, none⟩ = some (.slice A4 n4 c4) ∧ V.cell? ⟨g, o + k * 3 + 2, none⟩ = some (.slice D4 m4 e4))) (by kernel_rfl) ⟨b7.cell 0 _ rfl, b7.cell 1 _ rfl, b7.cell 2 _ rfl, p0.eq, p1.eq, p2.eq⟩ (fun hHeld => ?_)
                  generalize w501.drew = v502 at H0 hHeld hQ kp kc p0 p1 p2 b5 b19 b7 ⊢
                  refine todo [0, 1, 2, 3, 4, 5, 6, 7, 8, 9] ?_
                  iterate 10
                    refine tkT ?_ rfl (by kernel_rfl) (fun _ _ _ h => h) (by rfl) (by assumption) ?_ ?_
                    rotate_left
                    · (intro w hSw; (try dsimp only at hSw); go_simp; (try with_reducible rfl))
                    (try simp only [getElem_toArray, getElem_cons_succ, getElem_cons_zero, Act.put, setIfInBounds_toArray, set_cons_zero, set_cons_succ])
                  refine tdone ?_
                  refine rd1 10 (by kernel_rfl) rfl (fun K hK => ?_)
                  go_simp
                  go_at_call 43
                  refine (nqc_v kc kp (by omega) (by omega) HK.out).mono ?_
                  rintro e w503 ⟨rfl, hb⟩
                  replace hQ := hQ.below hb
                  replace kp := kp.below hb
                  replace kc := kc.below hb
                  replace p0 := p0.below hb
                  replace p1 := p1.below hb
                  replace p2 := p2.below hb
                  replace b5 := b5.below hb
                  replace b19 := b19.below hb
                  replace b7 := b7.below hb
                  replace H0 := H0.trans (hb.mono H0.size)
                  clear hb
                  go_wp2_with fail
                  refine hK.out _ _ ⟨b7.cell 0 _ rfl, b7.cell 1 _ rfl, b7.cell 2 _ rfl, p0.eq, p1.eq, p2.eq⟩ (fun hHeld => ?_)
                  clear hK K
                  (try simp only [getElem_toArray, getElem_cons_succ, getElem_cons_zero, Act.put, setIfInBounds_toArray, set_cons_zero, set_cons_succ])
                  refine todo [11, 12] ?_
                  iterate 2
                    refine tkT ?_ rfl (by kernel_rfl) (fun _ _ _ h => h) (by rfl) (by assumption) ?_ ?_
                    rotate_left
                    · (intro w hSw; (try dsimp only at hSw); go_simp; (try with_reducible rfl))
                    (try simp only [getElem_toArray, getElem_cons_succ, getElem_cons_zero, Act.put, setIfInBounds_toArray, set_cons_zero, set_cons_succ])
                  refine tdone ?_
                  refine wpAnyH_done (by kernel_rfl) ?_ _
                  refine NoPanic.normal ?_
                  go_wp2_with fail
                  clear kc p0 p1 p2
                  obtain ⟨css, hr, ha⟩ := hQ
                  have hcl := All2.len ha
                  have hlc : k ≤ c9 := by have := hr.flat.2.1; omega
                  have hne9 : ¬ c9 = k := by have := hr.flat.2.1; omega
                  have hlk : k ≤ ds.length := by omega
                  have hlo := part_low (k := k) hr (by omega)
                  have hhi := part_high (k := k) hr (by omega)
                  replace ha : QL w503 L css ds := ha
                  have hD := drawn_below w503
                  replace hr := hr.below hD
                  replace hlo := hlo.below hD
                  replace hhi := hhi.below hD
                  replace kp := kp.below hD
                  replace ha := ha.below hD
                  replace b5 := b5.below hD
                  replace b19 := b19.below hD
                  replace b7 := b7.below hD
                  replace H0 := H0.trans (hD.mono H0.size)
                  clear hD
                  refine wp_region_noPanic ?_
                  refine wp_region_held_drew (S := (fun V => V.cell? ⟨wx.heap.size, 0, none⟩ = some (.bool s0) ∧ V.cell? ⟨wx.heap.size, 1, none⟩ = some (.slice A0 n0 c0) ∧ V.cell? ⟨wx.heap.size, 2, none⟩ = some (.slice D0 m0 e0))) (by kernel_rfl) (b7.all3) (fun hHeld => ?_)
                  generalize w503.drew = v504 at H0 hHeld hr hlo hhi kp ha b5 b19 b7 ⊢
                  refine todo [0, 1, 2, 3, 4, 6, 7, 8] ?_
                  iterate 8
                    refine tkT ?_ rfl (by kernel_rfl) (fun _ _ _ h => h) (by rfl) (by assumption) ?_ ?_
                    rotate_left
                    · (intro w hSw; (try dsimp only at hSw); go_simp; (try with_reducible rfl))
                    (try simp only [getElem_toArray, getElem_cons_succ, getElem_cons_zero, Act.put, setIfInBounds_toArray, set_cons_zero, set_cons_succ])
                  refine tdone ?_
                  refine rd1 5 (by kernel_rfl) rfl (fun K hK => ?_)
                  go_simp
                  obtain ⟨W505, hV, bL, hb9, szW505⟩ := boxes1 v504 #[.bool s0, .slice A0 n0 c0, .slice D0 m0 e0] 37
                  rw [hV]
                  clear hV
                  replace hr := hr.below hb9
                  replace hlo := hlo.below hb9
                  replace hhi := hhi.below hb9
                  replace kp := kp.below hb9
                  replace ha := ha.below hb9
                  replace b5 := b5.below hb9
                  replace b19 := b19.below hb9
                  replace b7 := b7.below hb9
                  replace H0 := H0.trans (hb9.mono H0.size)
                  clear hb9
                  refine hK.out _ _ (b7.all3) (fun hHeld => ?_)
                  clear hK K
                  (try simp only [getElem_toArray, getElem_cons_succ, getElem_cons_zero, Act.put, setIfInBounds_toArray, set_cons_zero, set_cons_succ])
                  have hq1 : ([.bool s0, .slice A0 n0 c0, .slice D0 m0 e0] : List Value).all (fun u => u.oneCell' && notInt u) = true := by simp [notInt, Value.oneCell']
                  refine rd1 9 (by kernel_rfl) rfl (fun K hK => ?_)
                  rw [if_pos (by rfl)]
                  refine op_append_read (css := [[.bool s0, .slice A0 n0 c0, .slice D0 m0 e0]]) (css' := (css.drop k)) _ _ rfl elem_q rfl (Box.readl (cs := [.bool s0, .slice A0 n0 c0, .slice D0 m0 e0]) bL rfl) rfl hhi (fun cs h u hu => (qe_cells ha cs (List.mem_of_mem_drop h) u hu).1) ((Classical.em (css.drop k = [])).elim .inl (fun hd => .inr (by have := List.length_pos_iff.2 hd; omega))) (by simp <;> omega) ?_
                  intro vh9_ w506 h9_ hb9
                  replace hr := hr.below hb9
                  replace hlo := hlo.below hb9
                  replace hhi := hhi.below hb9
                  replace kp := kp.below hb9
                  replace ha := ha.below hb9
                  replace b5 := b5.below hb9
                  replace b19 := b19.below hb9
                  replace b7 := b7.below hb9
                  replace bL := bL.below hb9
                  replace H0 := H0.trans (hb9.mono H0.size)
                  clear hb9
                  refine hK.out _ _ (b7.all3) (fun hHeld => ?_)
                  clear hK K
                  (try simp only [getElem_toArray, getElem_cons_succ, getElem_cons_zero, Act.put, setIfInBounds_toArray, set_cons_zero, set_cons_succ])
                  refine rd1 10 (by kernel_rfl) rfl (fun K hK => ?_)
                  rw [if_pos (by rfl)]
                  refine op_append_read (css := (css.take k)) (css' := (([([.bool s0, .slice A0 n0 c0, .slice D0 m0 e0] : List Value)] : List (List Value)) ++ css.drop k)) _ _ rfl elem_q rfl hlo rfl h9_ (fun cs h u hu => (List.mem_append.1 h).elim (fun h => (lit_all hq1 cs h u hu).1) (fun h => (qe_cells ha cs (List.mem_of_mem_drop h) u hu).1)) (.inr (by simp)) (by simp <;> omega) ?_
                  intro vh10_ w507 h10_ hb9
                  replace hr := hr.below hb9
                  replace hlo := hlo.below hb9
                  replace hhi := hhi.below hb9
                  replace kp := kp.below hb9
                  replace ha := ha.below hb9
                  replace h9_ := h9_.below hb9
                  replace b5 := b5.below hb9
                  replace b19 := b19.below hb9
                  replace b7 := b7.below hb9
                  replace bL := bL.below hb9
                  replace H0 := H0.trans (hb9.mono H0.size)
                  clear hb9
                  have hQ1 : QS w507 L vh10_ (ds.take k ++ p :: ds.drop k) := QS.ins h10_ ha ⟨_, _, _, _, _, _, _, rfl, kp⟩
                  rw [← HIN.out] at hQ1
                  obtain ⟨A1_, c1_, rfl, hy1, hy2⟩ := hQ1.form
                  refine hK.out _ _ (b7.all3) (fun hHeld => ?_)
                  clear hK K
                  (try simp only [getElem_toArray, getElem_cons_succ, getElem_cons_zero, Act.put, setIfInBounds_toArray, set_cons_zero, set_cons_succ])
                  refine tk 11 ?_ rfl (by kernel_rfl) (fun _ _ _ h => h) (by rfl) (by assumption) ?_ ?_
                  rotate_left
                  · (intro w hSw; (try dsimp only at hSw); go_simp; (try with_reducible rfl))
                  (try simp only [getElem_toArray, getElem_cons_succ, getElem_cons_zero, Act.put, setIfInBounds_toArray, set_cons_zero, set_cons_succ])
                  refine wpAnyH_done (by kernel_rfl) ?_ _
                  refine NoPanic.normal ?_
                  clear h10_ hy1 hy2 hr hlo hhi ha h9_
                  go_wp2_with fail
                  go_roundw
                  case rel => exact ⟨1, _, _, _, by omega, by go_num, rfl, hQ1, .inr (by rw [HIN.out]; simp <;> omega), by rw [step1_yes hE, ← HDS.out], b5, b19, H0⟩
                  case measure => simp [intOf]
              · obtain rfl : k = ds.length := by omega
                have el : decide ((ds.length : Int) < (ds.length : Int)) = false := by rw [decide_eq_false_iff_not]; omega
                have em : ((((ds.length : Nat) : Int)) == (ds.length : Int)) = true := by rw [beq_iff_eq]
                go_wp2_with fail
                have hD := drawn_below wr
                replace hQ := hQ.below hD
                replace kp := kp.below hD
                replace b5 := b5.below hD
                replace b19 := b19.below hD
                replace b7 := b7.below hD
                replace H0 := H0.trans (hD.mono H0.size)
                clear hD
                refine wp_region_noPanic ?_
                refine wp_region_held_drew (S := (fun V => V.cell? ⟨wx.heap.size, 0, none⟩ = some (.bool s0) ∧ V.cell? ⟨wx.heap.size, 1, none⟩ = some (.slice A0 n0 c0) ∧ V.cell? ⟨wx.heap.size, 2, none⟩ = some (.slice D0 m0 e0))) (by kernel_rfl) (b7.all3) (fun hHeld => ?_)
                generalize wr.drew = v800 at H0 hHeld hQ kp b5 b19 b7 ⊢
                refine todo [0, 1, 2, 3, 4] ?_
                iterate 5
                  refine tkT ?_ rfl (by kernel_rfl) (fun _ _ _ h => h) (by rfl) (by assumption) ?_ ?_
                  rotate_left
                  · (intro w hSw; (try dsimp only at hSw); go_simp; (try with_reducible rfl))
                  (try simp only [getElem_toArray, getElem_cons_succ, getElem_cons_zero, Act.put, setIfInBounds_toArray, set_cons_zero, set_cons_succ])
                refine tdone ?_
                refine todo [5, 6, 7, 8, 9, 10, 11] ?_
                iterate 7
                  refine tkS rfl (by kernel_rfl) (fun _ _ _ h => h) (by rfl) (by assumption) ?_
                  (try simp only [getElem_toArray, getElem_cons_succ, getElem_cons_zero, Act.put, setIfInBounds_toArray, set_cons_zero, set_cons_succ])
                refine tdone ?_
                refine tk 12 ?_ rfl (by kernel_rfl) (fun _ _ _ h => h) (by rfl) (by assumption) ?_ ?_
                rotate_left
                · (intro w hSw; (try dsimp only at hSw); go_simp; (try with_reducible rfl))
                (try simp only [getElem_toArray, getElem_cons_succ, getElem_cons_zero, Act.put, setIfInBounds_toArray, set_cons_zero, set_cons_succ])
                refine wpAnyH_done (by kernel_rfl) ?_ _
                refine NoPanic.normal ?_
                go_wp2_with fail
                have hD := drawn_below v800
                replace hQ := hQ.below hD
                replace kp := kp.below hD
                replace b5 := b5.below hD
                replace b19 := b19.below hD
                replace b7 := b7.below hD
                replace H0 := H0.trans (hD.mono H0.size)
                clear hD
                refine wp_region_noPanic ?_
                refine wp_region_held_drew (S := (fun V => V.cell? ⟨wx.heap.size, 0, none⟩ = some (.bool s0) ∧ V.cell? ⟨wx.heap.size, 1, none⟩ = some (.slice A0 n0 c0) ∧ V.cell? ⟨wx.heap.size, 2, none⟩ = some (.slice D0 m0 e0))) (by kernel_rfl) (b7.all3) (fun hHeld => ?_)
                generalize v800.drew = v801 at H0 hHeld hQ kp b5 b19 b7 ⊢
                refine todo [0, 1, 2, 3, 4] ?_
                iterate 5
                  refine tkT ?_ rfl (by kernel_rfl) (fun _ _ _ h => h) (by rfl) (by assumption) ?_ ?_
                  rotate_left
                  · (intro w hSw; (try dsimp only at hSw); go_simp; (try with_reducible rfl))
                  (try simp only [getElem_toArray, getElem_cons_succ, getElem_cons_zero, Act.put, setIfInBounds_toArray, set_cons_zero, set_cons_succ])
                refine tdone ?_
                refine todo [5, 6, 7, 8, 9, 10, 11] ?_
                iterate 7
                  refine tkS rfl (by kernel_rfl) (fun _ _ _ h => h) (by rfl) (by assumption) ?_
                  (try simp only [getElem_toArray, getElem_cons_succ, getElem_cons_zero, Act.put, setIfInBounds_toArray, set_cons_zero, set_cons_succ])
                refine tdone ?_
                refine tk 12 ?_ rfl (by kernel_rfl) (fun _ _ _ h => h) (by rfl) (by assumption) ?_ ?_
                rotate_left
                · (intro w hSw; (try dsimp only at hSw); go_simp; (try with_reducible rfl))
                (try simp only [getElem_toArray, getElem_cons_succ, getElem_cons_zero, Act.put, setIfInBounds_toArray, set_cons_zero, set_cons_succ])
                refine wpAnyH_done (by kernel_rfl) ?_ _
                refine NoPanic.normal ?_
                go_wp2_with fail
                have HIN : Hid (insT p ds = ds.take ds.length ++ p :: ds.drop ds.length) := Lib.hid (by rw [insT_at (k := ds.length) (by omega) HBF.out (fun d hd => by rw [List.getElem?_eq_none (Nat.le_refl _)] at hd; cases hd), List.getElem?_eq_none (Nat.le_refl _), if_neg (fun he => by cases he)])
                rcases hN with ⟨e1, e2, e3⟩ | hN
                · subst e1 e2 e3
                  obtain ⟨css, hr, ha⟩ := hQ
                  have hcl := All2.len ha
                  replace ha : QL v801 L css [] := ha
                  have hD := drawn_below v801
                  replace hr := hr.below hD
                  replace kp := kp.below hD
                  replace ha := ha.below hD
                  replace b5 := b5.below hD
                  replace b19 := b19.below hD
                  replace b7 := b7.below hD
                  replace H0 := H0.trans (hD.mono H0.size)
                  clear hD
                  refine wp_region_noPanic ?_
                  refine wp_region_held_drew (S := (fun V => V.cell? ⟨wx.heap.size, 0, none⟩ = some (.bool s0) ∧ V.cell? ⟨wx.heap.size, 1, none⟩ = some (.slice A0 n0 c0) ∧ V.cell? ⟨wx.heap.size, 2, none⟩ = some (.slice D0 m0 e0))) (by kernel_rfl) (b7.all3) (fun hHeld => ?_)
                  generalize v801.drew = v802 at H0 hHeld hr kp ha b5 b19 b7 ⊢
                  refine todo [0, 1, 2, 3, 4, 6, 7, 8] ?_
                  iterate 8
                    refine tkT ?_ rfl (by kernel_rfl) (fun _ _ _ h => h) (by rfl) (by assumption) ?_ ?_
                    rotate_left
                    · (intro w hSw; (try dsimp only at hSw); go_simp; (try with_reducible rfl))
                    (try simp only [getElem_toArray, getElem_cons_succ, getElem_cons_zero, Act.put, setIfInBounds_toArray, set_cons_zero, set_cons_succ])
                  refine tdone ?_
                  refine rd1 5 (by kernel_rfl) rfl (fun K hK => ?_)
                  go_simp
                  obtain ⟨W803, hV, bL, hb9, szW803⟩ := boxes1 v802 #[.bool s0, .slice A0 n0 c0, .slice D0 m0 e0] 37
                  rw [hV]
                  clear hV
                  replace hr := hr.below hb9
                  replace kp := kp.below hb9
                  replace ha := ha.below hb9
                  replace b5 := b5.below hb9
                  replace b19 := b19.below hb9
                  replace b7 := b7.below hb9
                  replace H0 := H0.trans (hb9.mono H0.size)
                  clear hb9
                  refine hK.out _ _ (b7.all3) (fun hHeld => ?_)
                  clear hK K
                  (try simp only [getElem_toArray, getElem_cons_succ, getElem_cons_zero, Act.put, setIfInBounds_toArray, set_cons_zero, set_cons_succ])
                  have hq1 : ([.bool s0, .slice A0 n0 c0, .slice D0 m0 e0] : List Value).all (fun u => u.oneCell' && notInt u) = true := by simp [notInt, Value.oneCell']
                  have hcss : css = [] := List.eq_nil_of_length_eq_zero (by rw [hcl]; rfl)
                  subst hcss
                  refine rd1 9 (by kernel_rfl) rfl (fun K hK => ?_)
                  rw [if_pos (by rfl)]
                  refine op_append_read (css := [[.bool s0, .slice A0 n0 c0, .slice D0 m0 e0]]) (css' := []) _ _ rfl elem_q rfl (Box.readl (cs := [.bool s0, .slice A0 n0 c0, .slice D0 m0 e0]) bL rfl) rfl hr (fun cs h => (by cases h)) (.inl rfl) (by simp <;> omega) ?_
                  intro vh9_ w804 h9_ hb9
                  replace hr := hr.below hb9
                  replace kp := kp.below hb9
                  replace ha := ha.below hb9
                  replace b5 := b5.below hb9
                  replace b19 := b19.below hb9
                  replace b7 := b7.below hb9
                  replace bL := bL.below hb9
                  replace H0 := H0.trans (hb9.mono H0.size)
                  clear hb9
                  refine hK.out _ _ (b7.all3) (fun hHeld => ?_)
                  clear hK K
                  (try simp only [getElem_toArray, getElem_cons_succ, getElem_cons_zero, Act.put, setIfInBounds_toArray, set_cons_zero, set_cons_succ])
                  refine rd1 10 (by kernel_rfl) rfl (fun K hK => ?_)
                  rw [if_pos (by rfl)]
                  refine op_append_read (css := []) (css' := [[.bool s0, .slice A0 n0 c0, .slice D0 m0 e0]]) _ _ rfl elem_q rfl hr rfl h9_ (fun cs h u hu => (lit_all hq1 cs h u hu).1) (.inr (by simp)) (by simp <;> omega) ?_
                  intro vh10_ w805 h10_ hb9
                  replace hr := hr.below hb9
                  replace kp := kp.below hb9
                  replace ha := ha.below hb9
                  replace h9_ := h9_.below hb9
                  replace b5 := b5.below hb9
                  replace b19 := b19.below hb9
                  replace b7 := b7.below hb9
                  replace bL := bL.below hb9
                  replace H0 := H0.trans (hb9.mono H0.size)
                  clear hb9
                  have hQ1 : QS w805 L vh10_ (([] : List Rat).take ([] : List Rat).length ++ p :: ([] : List Rat).drop ([] : List Rat).length) := QS.ins (css := []) (k := 0) h10_ ha ⟨_, _, _, _, _, _, _, rfl, kp⟩
                  rw [← HIN.out] at hQ1
                  obtain ⟨A1_, c1_, rfl, hy1, hy2⟩ := hQ1.form
                  refine hK.out _ _ (b7.all3) (fun hHeld => ?_)
                  clear hK K
                  (try simp only [getElem_toArray, getElem_cons_succ, getElem_cons_zero, Act.put, setIfInBounds_toArray, set_cons_zero, set_cons_succ])
                  refine tk 11 ?_ rfl (by kernel_rfl) (fun _ _ _ h => h) (by rfl) (by assumption) ?_ ?_
                  rotate_left
                  · (intro w hSw; (try dsimp only at hSw); go_simp; (try with_reducible rfl))
                  (try simp only [getElem_toArray, getElem_cons_succ, getElem_cons_zero, Act.put, setIfInBounds_toArray, set_cons_zero, set_cons_succ])
                  refine wpAnyH_done (by kernel_rfl) ?_ _
                  refine NoPanic.normal ?_
                  clear h10_ hy1 hy2 hr ha h9_
                  go_wp2_with fail
                  go_roundw
                  case rel => exact ⟨1, _, _, _, by omega, by go_num, rfl, hQ1, .inr (by rw [HIN.out]; simp <;> omega), by rw [step1_yes hE, ← HDS.out], b5, b19, H0⟩
                  case measure => simp [intOf]
                · obtain ⟨g, o, rfl⟩ := hQ.addr hN
                  obtain ⟨css, hr, ha⟩ := hQ
                  have hcl := All2.len ha
                  have hlc : ds.length ≤ c9 := hr.flat.2.1
                  have hcm : c9 ≤ maxLen := by obtain ⟨_, _, e8_, _, h8_⟩ := hr.shape; injection e8_ with _ _ e8_; rw [e8_]; exact h8_
                  have HCM := Lib.hid hcm
                  clear hcm
                  have hlo := part_low (k := ds.length) hr (Nat.le_refl _)
                  replace ha : QL v801 L css ds := ha
                  have hD := drawn_below v801
                  replace hr := hr.below hD
                  replace hlo := hlo.below hD
                  replace kp := kp.below hD
                  replace ha := ha.below hD
                  replace b5 := b5.below hD
                  replace b19 := b19.below hD
                  replace b7 := b7.below hD
                  replace H0 := H0.trans (hD.mono H0.size)
                  clear hD
                  refine wp_region_noPanic ?_
                  refine wp_region_held_drew (S := (fun V => V.cell? ⟨wx.heap.size, 0, none⟩ = some (.bool s0) ∧ V.cell? ⟨wx.heap.size, 1, none⟩ = some (.slice A0 n0 c0) ∧ V.cell? ⟨wx.heap.size, 2, none⟩ = some (.slice D0 m0 e0))) (by kernel_rfl) (b7.all3) (fun hHeld => ?_)
                  generalize v801.drew = v802 at H0 hHeld hr hlo kp ha b5 b19 b7 ⊢
                  refine todo [0, 1, 2, 3, 4, 6, 7, 8] ?_
                  iterate 8
                    refine tkT ?_ rfl (by kernel_rfl) (fun _ _ _ h => h) (by rfl) (by assumption) ?_ ?_
                    rotate_left
                    · (intro w hSw; (try dsimp only at hSw); go_simp; (try with_reducible rfl))
                    (try simp only [getElem_toArray, getElem_cons_succ, getElem_cons_zero, Act.put, setIfInBounds_toArray, set_cons_zero, set_cons_succ])
                  refine tdone ?_
                  refine rd1 5 (by kernel_rfl) rfl (fun K hK => ?_)
                  go_simp
                  obtain ⟨W803, hV, bL, hb9, szW803⟩ := boxes1 v802 #[.bool s0, .slice A0 n0 c0, .slice D0 m0 e0] 37
                  rw [hV]
                  clear hV
                  replace hr := hr.below hb9
                  replace hlo := hlo.below hb9
                  replace kp := kp.below hb9
                  replace ha := ha.below hb9
                  replace b5 := b5.below hb9
                  replace b19 := b19.below hb9
                  replace b7 := b7.below hb9
                  replace H0 := H0.trans (hb9.mono H0.size)
                  clear hb9
                  refine hK.out _ _ (b7.all3) (fun hHeld => ?_)
                  clear hK K
                  (try simp only [getElem_toArray, getElem_cons_succ, getElem_cons_zero, Act.put, setIfInBounds_toArray, set_cons_zero, set_cons_succ])
                  have hq1 : ([.bool s0, .slice A0 n0 c0, .slice D0 m0 e0] : List Value).all (fun u => u.oneCell' && notInt u) = true := by simp [notInt, Value.oneCell']
                  have hcd : css.drop ds.length = [] := List.drop_of_length_le (by rw [hcl]; exact Nat.le_refl _)
                  refine rd1 9 (by kernel_rfl) rfl (fun K hK => ?_)
                  rw [if_pos (by rfl)]
                  refine op_append_read (css := [[.bool s0, .slice A0 n0 c0, .slice D0 m0 e0]]) (css' := []) _ _ rfl elem_q rfl (Box.readl (cs := [.bool s0, .slice A0 n0 c0, .slice D0 m0 e0]) bL rfl) rfl (read_none _ _ (by first | exact Nat.le_trans (Nat.sub_le _ _) HCM.out | exact Nat.zero_le _)) (fun cs h => (by cases h)) (.inl rfl) (by simp <;> omega) ?_
                  intro vh9_ w804 h9_ hb9
                  replace hr := hr.below hb9
                  replace hlo := hlo.below hb9
                  replace kp := kp.below hb9
                  replace ha := ha.below hb9
                  replace b5 := b5.below hb9
                  replace b19 := b19.below hb9
                  replace b7 := b7.below hb9
                  replace bL := bL.below hb9
                  replace H0 := H0.trans (hb9.mono H0.size)
                  clear hb9
                  replace h9_ : ReadR w804 3 vh9_ ([[.bool s0, .slice A0 n0 c0, .slice D0 m0 e0]] ++ css.drop ds.length) := by rw [hcd]; exact h9_
                  refine hK.out _ _ (b7.all3) (fun hHeld => ?_)
                  clear hK K
                  (try simp only [getElem_toArray, getElem_cons_succ, getElem_cons_zero, Act.put, setIfInBounds_toArray, set_cons_zero, set_cons_succ])
                  refine rd1 10 (by kernel_rfl) rfl (fun K hK => ?_)
                  rw [if_pos (by rfl)]
                  refine op_append_read (css := (css.take ds.length)) (css' := (([([.bool s0, .slice A0 n0 c0, .slice D0 m0 e0] : List Value)] : List (List Value)) ++ css.drop ds.length)) _ _ rfl elem_q rfl hlo rfl h9_ (fun cs h u hu => (List.mem_append.1 h).elim (fun h => (lit_all hq1 cs h u hu).1) (fun h => (qe_cells ha cs (List.mem_of_mem_drop h) u hu).1)) (.inr (by simp)) (by simp <;> omega) ?_
                  intro vh10_ w805 h10_ hb9
                  replace hr := hr.below hb9
                  replace hlo := hlo.below hb9
                  replace kp := kp.below hb9
                  replace ha := ha.below hb9
                  replace h9_ := h9_.below hb9
                  replace b5 := b5.below hb9
                  replace b19 := b19.below hb9
                  replace b7 := b7.below hb9
                  replace bL := bL.below hb9
                  replace H0 := H0.trans (hb9.mono H0.size)
                  clear hb9
                  have hQ1 : QS w805 L vh10_ (ds.take ds.length ++ p :: ds.drop ds.length) := QS.ins h10_ ha ⟨_, _, _, _, _, _, _, rfl, kp⟩
                  rw [← HIN.out] at hQ1
                  obtain ⟨A1_, c1_, rfl, hy1, hy2⟩ := hQ1.form
                  refine hK.out _ _ (b7.all3) (fun hHeld => ?_)
                  clear hK K
                  (try simp only [getElem_toArray, getElem_cons_succ, getElem_cons_zero, Act.put, setIfInBounds_toArray, set_cons_zero, set_cons_succ])
                  refine tk 11 ?_ rfl (by kernel_rfl) (fun _ _ _ h => h) (by rfl) (by assumption) ?_ ?_
                  rotate_left
                  · (intro w hSw; (try dsimp only at hSw); go_simp; (try with_reducible rfl))
                  (try simp only [getElem_toArray, getElem_cons_succ, getElem_cons_zero, Act.put, setIfInBounds_toArray, set_cons_zero, set_cons_succ])
                  refine wpAnyH_done (by kernel_rfl) ?_ _
                  refine NoPanic.normal ?_
                  clear h10_ hy1 hy2 hr hlo ha h9_
                  go_wp2_with fail
                  go_roundw
                  case rel => exact ⟨1, _, _, _, by omega, by go_num, rfl, hQ1, .inr (by rw [HIN.out]; simp <;> omega), by rw [step1_yes hE, ← HDS.out], b5, b19, H0⟩
                  case measure => simp [intOf]
        · simp only [show ((1 : Nat) : Int) = 1 from rfl]
          have HDS := Lib.hid hds
          clear hds
          have kE := y1.below H0
          rcases hE : sp.hi with _ | p
          · have e7 := kE.no hE
            subst e7
            clear kE
            obtain ⟨z0, z1, z2, z3, z4, z5⟩ := b19.cells6
            obtain ⟨W2, hW2, b7, hb7, hs7⟩ := boxes1 wx #[.bool s1, .slice A1 n1 c1, .slice D1 m1 e1] 37
            replace hQ := hQ.below hb7
            replace b5 := b5.below hb7
            replace b19 := b19.below hb7
            replace H0 := H0.trans (hb7.mono H0.size)
            obtain ⟨x0, x1, x2, x3, x4, x5, x6, x7⟩ := b5.cells8
            clear hs7 hb7
            go_wp2_with fail
            clear hW2 b7
            clear x0 x1 x2 x3 x4 x5 x6 x7 z0 z1 z2 z3 z4 z5
            go_roundw
            case rel => exact ⟨2, _, _, _, by omega, by go_num, rfl, hQ, hN, by rw [step2_no hE]; exact HDS.out, b5, b19, H0⟩
            case measure => simp [intOf]
          · obtain ⟨e7, kp⟩ := kE.yes hE
            subst e7
            clear kE
            obtain ⟨z0, z1, z2, z3, z4, z5⟩ := b19.cells6
            obtain ⟨W2, hW2, b7, hb7, hs7⟩ := boxes1 wx #[.bool s1, .slice A1 n1 c1, .slice D1 m1 e1] 37
            replace hQ := hQ.below hb7
            replace b5 := b5.below hb7
            replace b19 := b19.below hb7
            replace kp := kp.below hb7
            replace H0 := H0.trans (hb7.mono H0.size)
            obtain ⟨x0, x1, x2, x3, x4, x5, x6, x7⟩ := b5.cells8
            clear hs7 hb7
            go_wp2_with fail
            clear hW2
            clear x0 x1 x2 x3 x4 x5 x6 x7 z0 z1 z2 z3 z4 z5
            go_loopw [8] (fun t8 wy => ∃ k : Nat, k ≤ ds.length ∧ t8 = .int .i64 (k : Int) ∧ (∀ j c, j < k → ds[j]? = some c → c < p) ∧ QS wy L (.slice A9 ds.length c9) ds ∧ Box wy wq.heap.size #[.bool s0, .slice A0 n0 c0, .slice D0 m0 e0, .bool s1, .slice A1 n1 c1, .slice D1 m1 e1, .bool f0, .bool false] 39 ∧ Box wy W0.heap.size #[.bool s0, .slice A0 n0 c0, .slice D0 m0 e0, .bool s1, .slice A1 n1 c1, .slice D1 m1 e1] 37 ∧ Box wy wx.heap.size #[.bool s1, .slice A1 n1 c1, .slice D1 m1 e1] 37 ∧ PQ wy s1 (.slice A1 n1 c1) (.slice D1 m1 e1) p L ∧ Below w.heap.size w wy) (fun t8 _ => ds.length - (intOf t8).toNat)
            case atStart => exact ⟨0, Nat.zero_le _, rfl, fun j c h => absurd h (Nat.not_lt_zero _), hQ, b5, b19, b7, kp, H0⟩
            case round =>
              clear hQ b5 b19 b7 kp H0
              obtain ⟨k, hk, rfl, hbf, hQ, b5, b19, b7, kp, H0⟩ := hrel
              have HBF := Lib.hid hbf
              clear hbf
              have hdl : ds.length ≤ 100000 := by have := HDL.out; omega
              by_cases hlt : k < ds.length
              · obtain ⟨c, hc⟩ : ∃ c, ds[k]? = some c := ⟨_, List.getElem?_eq_getElem hlt⟩
                obtain ⟨g, o, s4, A4, n4, c4, D4, m4, e4, rfl, cc0, cc1, cc2, kc⟩ := hQ.elem hc
                have p0 : CellF wr _ _ := cc0
                have p1 : CellF wr _ _ := cc1
                have p2 : CellF wr _ _ := cc2
                clear cc0 cc1 cc2
                have HCK := Lib.hid hc
                clear hc
                obtain ⟨kk, hkk⟩ : ∃ k, rsg (c - p) = k := ⟨_, rfl⟩
                have HK := Lib.hid hkk
                clear hkk
                have el : decide ((k : Int) < (ds.length : Int)) = true := decide_eq_true (by omega)
                have em : (((k : Nat) : Int) == (ds.length : Int)) = false := by rw [beq_eq_false_iff_ne]; omega
                go_wp2_with fail
                have hD := drawn_below wr
                replace hQ := hQ.below hD
                replace kp := kp.below hD
                replace kc := kc.below hD
                replace p0 := p0.below hD
                replace p1 := p1.below hD
                replace p2 := p2.below hD
                replace b5 := b5.below hD
                replace b19 := b19.below hD
                replace b7 := b7.below hD
                replace H0 := H0.trans (hD.mono H0.size)
                clear hD
                refine wp_region_noPanic ?_
                refine wp_region_held_drew (S := (fun V => V.cell? ⟨wx.heap.size, 0, none⟩ = some (.bool s1) ∧ V.cell? ⟨wx.heap.size, 1, none⟩ = some (.slice A1 n1 c1) ∧ V.cell? ⟨wx.heap.size, 2, none⟩ = some (.slice D1 m1 e1) ∧ V.cell? ⟨g, o + k * 3, none⟩ = some (.bool s4) ∧ V.cell? ⟨g, o + k * 3 + 1, none⟩ = some (.slice A4 n4 c4) ∧ V.cell? ⟨g, o + k * 3 + 2, none⟩ = some (.slice D4 m4 e4))) (by kernel_rfl) ⟨b7.cell 0 _ rfl, b7.cell 1 _ rfl, b7.cell 2 _ rfl, p0.eq, p1.eq, p2.eq⟩ (fun hHeld => ?_)
                generalize wr.drew = v500 at H0 hHeld hQ kp kc p0 p1 p2 b5 b19 b7 ⊢
                refine todo [0, 1, 2, 3, 4, 5, 6, 7, 8, 9] ?_
                iterate 10
                  refine tkT ?_ rfl (by kernel_rfl) (fun _ _ _ h => h) (by rfl) (by assumption) ?_ ?_
                  rotate_left
                  · (intro w hSw; (try dsimp only at hSw); go_simp; (try with_reducible rfl))
                  (try simp only [getElem_toArray, getElem_cons_succ, getElem_cons_zero, Act.put, setIfInBounds_toArray, set_cons_zero, set_cons_succ])
                refine tdone ?_
                refine rd1 10 (by kernel_rfl) rfl (fun K hK => ?_)
                go_simp
                go_at_call 43
                refine (nqc_v kc kp (by omega) (by omega) HK.out).mono ?_
                rintro e w501 ⟨rfl, hb⟩
                replace hQ := hQ.below hb
                replace kp := kp.below hb
                replace kc := kc.below hb
                replace p0 := p0.below hb
                replace p1 := p1.below hb
                replace p2 := p2.below hb
                replace b5 := b5.below hb
                replace b19 := b19.below hb
                replace b7 := b7.below hb
                replace H0 := H0.trans (hb.mono H0.size)
                clear hb
                go_wp2_with fail
                refine hK.out _ _ ⟨b7.cell 0 _ rfl, b7.cell 1 _ rfl, b7.cell 2 _ rfl, p0.eq, p1.eq, p2.eq⟩ (fun hHeld => ?_)
                clear hK K
                (try simp only [getElem_toArray, getElem_cons_succ, getElem_cons_zero, Act.put, setIfInBounds_toArray, set_cons_zero, set_cons_succ])
                refine todo [11, 12] ?_
                iterate 2
                  refine tkT ?_ rfl (by kernel_rfl) (fun _ _ _ h => h) (by rfl) (by assumption) ?_ ?_
                  rotate_left
                  · (intro w hSw; (try dsimp only at hSw); go_simp; (try with_reducible rfl))
                  (try simp only [getElem_toArray, getElem_cons_succ, getElem_cons_zero, Act.put, setIfInBounds_toArray, set_cons_zero, set_cons_succ])
                refine tdone ?_
                refine wpAnyH_done (by kernel_rfl) ?_ _
                refine NoPanic.normal ?_
                rcases rsg_tri c p with ⟨hs, hcp⟩ | ⟨hs, hcp⟩ | ⟨hs, hcp⟩ <;> rw [HK.out] at hs <;> subst hs
                · go_wp2_with fail
                  go_roundw
                  case rel => exact ⟨k + 1, by omega, by go_num, fun j d hj hd => (Nat.lt_succ_iff_lt_or_eq.1 hj).elim (fun h => HBF.out j d h hd) (fun h => by subst h; rw [HCK.out] at hd; injection hd with hd; subst hd; exact hcp), hQ, b5, b19, b7, kp, H0⟩
                  case measure => simp [intOf]; omega
                · have HIN : Hid (insT p ds = ds) := Lib.hid (by rw [insT_at (k := k) (by omega) HBF.out (fun d hd => by rw [HCK.out] at hd; injection hd with hd; subst hd; rw [hcp]; exact Rat.lt_irrefl), HCK.out, hcp, if_pos rfl])
                  go_wp2_with fail
                  have hD := drawn_below w501
                  replace hQ := hQ.below hD
                  replace kp := kp.below hD
                  replace kc := kc.below hD
                  replace p0 := p0.below hD
                  replace p1 := p1.below hD
                  replace p2 := p2.below hD
                  replace b5 := b5.below hD
                  replace b19 := b19.below hD
                  replace b7 := b7.below hD
                  replace H0 := H0.trans (hD.mono H0.size)
                  clear hD
                  refine wp_region_noPanic ?_
                  refine wp_region_held_drew (S := (fun V => V.cell? ⟨wx.heap.size, 0, none⟩ = some (.bool s1) ∧ V.cell? ⟨wx.heap.size, 1, none⟩ = some (.slice A1 n1 c1) ∧ V.cell? ⟨wx.heap.size, 2, none⟩ = some (.slice D1 m1 e1) ∧ V.cell? ⟨g, o + k * 3, none⟩ = some (.bool s4) ∧ V.cell? ⟨g, o + k * 3 + 1, none⟩ = some (.slice A4 n4 c4) ∧ V.cell? ⟨g, o + k * 3 + 2, none⟩ = some (.slice D4 m4 e4))) (by kernel_rfl) ⟨b7.cell 0 _ rfl, b7.cell 1 _ rfl, b7.cell 2 _ rfl, p0.eq, p1.eq, p2.eq⟩ (fun hHeld => ?_)
                  generalize w501.drew = v502 at H0 hHeld hQ kp kc p0 p1 p2 b5 b19 b7 ⊢
                  refine todo [0, 1, 2, 3, 4, 5, 6, 7, 8, 9] ?_
                  iterate 10
                    refine tkT ?_ rfl (by kernel_rfl) (fun _ _ _ h => h) (by rfl) (by assumption) ?_ ?_
                    rotate_left
                    · (intro w hSw; (try dsimp only at hSw); go_simp; (try with_reducible rfl))
                    (try simp only [getElem_toArray, getElem_cons_succ, getElem_cons_zero, Act.put, setIfInBounds_toArray, set_cons_zero, set_cons_succ])
                  refine tdone ?_
                  refine rd1 10 (by kernel_rfl) rfl (fun K hK => ?_)
                  go_simp
                  go_at_call 43
                  refine (nqc_v kc kp (by omega) (by omega) HK.out).mono ?_
                  rintro e w503 ⟨rfl, hb⟩
                  replace hQ := hQ.below hb
                  replace kp := kp.below hb
                  replace kc := kc.below hb
                  replace p0 := p0.below hb
                  replace p1 := p1.below hb
                  replace p2 := p2.below hb
                  replace b5 := b5.below hb
                  replace b19 := b19.below hb
                  replace b7 := b7.below hb
                  replace H0 := H0.trans (hb.mono H0.size)
                  clear hb
                  go_wp2_with fail
                  refine hK.out _ _ ⟨b7.cell 0 _ rfl, b7.cell 1 _ rfl, b7.cell 2 _ rfl, p0.eq, p1.eq, p2.eq⟩ (fun hHeld => ?_)
                  clear hK K
                  (try simp only [getElem_toArray, getElem_cons_succ, getElem_cons_zero, Act.put, setIfInBounds_toArray, set_cons_zero, set_cons_succ])
                  refine todo [11, 12] ?_
                  iterate 2
                    refine tkT ?_ rfl (by kernel_rfl) (fun _ _ _ h => h) (by rfl) (by assumption) ?_ ?_
                    rotate_left
                    · (intro w hSw; (try dsimp only at hSw); go_simp; (try with_reducible rfl))
                    (try simp only [getElem_toArray, getElem_cons_succ, getElem_cons_zero, Act.put, setIfInBounds_toArray, set_cons_zero, set_cons_succ])
                  refine tdone ?_
                  refine wpAnyH_done (by kernel_rfl) ?_ _
                  refine NoPanic.normal ?_
                  go_wp2_with fail
                  go_roundw
                  case rel => exact ⟨2, _, _, _, by omega, by go_num, rfl, hQ, hN, by rw [step2_yes hE, ← HDS.out, HIN.out], b5, b19, H0⟩
                  case measure => simp [intOf]
                · have HIN : Hid (insT p ds = ds.take k ++ p :: ds.drop k) := Lib.hid (by rw [insT_at (k := k) (by omega) HBF.out (fun d hd => by rw [HCK.out] at hd; injection hd with hd; subst hd; grind), HCK.out, if_neg (fun he => by injection he with he; grind)])
                  go_wp2_with fail
                  have hD := drawn_below w501
                  replace hQ := hQ.below hD
                  replace kp := kp.below hD
                  replace kc := kc.below hD
                  replace p0 := p0.below hD
                  replace p1 := p1.below hD
                  replace p2 := p2.below hD
                  replace b5 := b5.below hD
                  replace b19 := b19.below hD
                  replace b7 := b7.below hD
                  replace H0 := H0.trans (hD.mono H0.size)
                  clear hD
                  refine wp_region_noPanic ?_
                  refine wp_region_held_drew (S := (fun V => V.cell? ⟨wx.heap.size, 0, none⟩ = some (.bool s1) ∧ V.cell? ⟨wx.heap.size, 1, none⟩ = some (.slice A1 n1 c1) ∧ V.cell? ⟨wx.heap.size, 2, none⟩ = some (.slice D1 m1 e1) ∧ V.cell? ⟨g, o + k * 3, none⟩ = some (.bool s4) ∧ V.cell? ⟨g, o + k * 3 + 1, none⟩ = some (.slice A4 n4 c4) ∧ V.cell? ⟨g, o + k * 3 + 2, none⟩ = some (.slice D4 m4 e4))) (by kernel_rfl) ⟨b7.cell 0 _ rfl, b7.cell 1 _ rfl, b7.cell 2 _ rfl, p0.eq, p1.eq, p2.eq⟩ (fun hHeld => ?_)
                  generalize w501.drew = v502 at H0 hHeld hQ kp kc p0 p1 p2 b5 b19 b7 ⊢
                  refine todo [0, 1, 2, 3, 4, 5, 6, 7, 8, 9] ?_
                  iterate 10
                    refine tkT ?_ rfl (by kernel_rfl) (fun _ _ _ h => h) (by rfl) (by assumption) ?_ ?_
                    rotate_left
                    · (intro w hSw; (try dsimp only at hSw); go_simp; (try with_reducible rfl))
                    (try simp only [getElem_toArray, getElem_cons_succ, getElem_cons_zero, Act.put, setIfInBounds_toArray, set_cons_zero, set_cons_succ])
                  refine tdone ?_
                  refine rd1 10 (by kernel_rfl) rfl (fun K hK => ?_)
                  go_simp
                  go_at_call 43
                  refine (nqc_v kc kp (by omega) (by omega) HK.out).mono ?_
                  rintro e w503 ⟨rfl, hb⟩
                  replace hQ := hQ.below hb
                  replace kp := kp.below hb
                  replace kc := kc.below hb
                  replace p0 := p0.below hb
                  replace p1 := p1.below hb
                  replace p2 := p2.below hb
                  replace b5 := b5.below hb
                  replace b19 := b19.below hb
                  replace b7 := b7.below hb
                  replace H0 := H0.trans (hb.mono H0.size)
                  clear hb
                  go_wp2_with fail
                  refine hK.out _ _ ⟨b7.cell 0 _ rfl, b7.cell 1 _ rfl, b7.cell 2 _ rfl, p0.eq, p1.eq, p2.eq⟩ (fun hHeld => ?_)
                  clear hK K
                  (try simp only [getElem_toArray, getElem_cons_succ, getElem_cons_zero, Act.put, setIfInBounds_toArray, set_cons_zero, set_cons_succ])
                  refine todo [11, 12] ?_
                  iterate 2
                    refine tkT ?_ rfl (by kernel_rfl) (fun _ _ _ h => h) (by rfl) (by assumption) ?_ ?_
                    rotate_left
                    · (intro w hSw; (try dsimp only at hSw); go_simp; (try with_reducible rfl))
                    (try simp only [getElem_toArray, getElem_cons_succ, getElem_cons_zero, Act.put, setIfInBounds_toArray, set_cons_zero, set_cons_succ])
                  refine tdone ?_
                  refine wpAnyH_done (by kernel_rfl) ?_ _
                  refine NoPanic.normal ?_
                  go_wp2_with fail
                  clear kc p0 p1 p2
                  obtain ⟨css, hr, ha⟩ := hQ
                  have hcl := All2.len ha
                  have hlc : k ≤ c9 := by have := hr.flat.2.1; omega
                  have hne9 : ¬ c9 = k := by have := hr.flat.2.1; omega
                  have hlk : k ≤ ds.length := by omega
                  have hlo := part_low (k := k) hr (by omega)
                  have hhi := part_high (k := k) hr (by omega)
                  replace ha : QL w503 L css ds := ha
                  have hD := drawn_below w503
                  replace hr := hr.below hD
                  replace hlo := hlo.below hD
                  replace hhi := hhi.below hD
                  replace kp := kp.below hD
                  replace ha := ha.below hD
                  replace b5 := b5.below hD
                  replace b19 := b19.below hD
                  replace b7 := b7.below hD
                  replace H0 := H0.trans (hD.mono H0.size)
                  clear hD
                  refine wp_region_noPanic ?_
                  refine wp_region_held_drew (S := (fun V => V.cell? ⟨wx.heap.size, 0, none⟩ = some (.bool s1) ∧ V.cell? ⟨wx.heap.size, 1, none⟩ = some (.slice A1 n1 c1) ∧ V.cell? ⟨wx.heap.size, 2, none⟩ = some (.slice D1 m1 e1))) (by kernel_rfl) (b7.all3) (fun hHeld => ?_)
                  generalize w503.drew = v504 at H0 hHeld hr hlo hhi kp ha b5 b19 b7 ⊢
                  refine todo [0, 1, 2, 3, 4, 6, 7, 8] ?_
                  iterate 8
                    refine tkT ?_ rfl (by kernel_rfl) (fun _ _ _ h => h) (by rfl) (by assumption) ?_ ?_
                    rotate_left
                    · (intro w hSw; (try dsimp only at hSw); go_simp; (try with_reducible rfl))
                    (try simp only [getElem_toArray, getElem_cons_succ, getElem_cons_zero, Act.put, setIfInBounds_toArray, set_cons_zero, set_cons_succ])
                  refine tdone ?_
                  refine rd1 5 (by kernel_rfl) rfl (fun K hK => ?_)
                  go_simp
                  obtain ⟨W505, hV, bL, hb9, szW505⟩ := boxes1 v504 #[.bool s1, .slice A1 n1 c1, .slice D1 m1 e1] 37
                  rw [hV]
                  clear hV
                  replace hr := hr.below hb9
                  replace hlo := hlo.below hb9
                  replace hhi := hhi.below hb9
                  replace kp := kp.below hb9
                  replace ha := ha.below hb9
                  replace b5 := b5.below hb9
                  replace b19 := b19.below hb9
                  replace b7 := b7.below hb9
                  replace H0 := H0.trans (hb9.mono H0.size)
                  clear hb9
                  refine hK.out _ _ (b7.all3) (fun hHeld => ?_)
                  clear hK K
                  (try simp only [getElem_toArray, getElem_cons_succ, getElem_cons_zero, Act.put, setIfInBounds_toArray, set_cons_zero, set_cons_succ])
                  have hq1 : ([.bool s1, .slice A1 n1 c1, .slice D1 m1 e1] : List Value).all (fun u => u.oneCell' && notInt u) = true := by simp [notInt, Value.oneCell']
                  refine rd1 9 (by kernel_rfl) rfl (fun K hK => ?_)
                  rw [if_pos (by rfl)]
                  refine op_append_read (css := [[.bool s1, .slice A1 n1 c1, .slice D1 m1 e1]]) (css' := (css.drop k)) _ _ rfl elem_q rfl (Box.readl (cs := [.bool s1, .slice A1 n1 c1, .slice D1 m1 e1]) bL rfl) rfl hhi (fun cs h u hu => (qe_cells ha cs (List.mem_of_mem_drop h) u hu).1) ((Classical.em (css.drop k = [])).elim .inl (fun hd => .inr (by have := List.length_pos_iff.2 hd; omega))) (by simp <;> omega) ?_
                  intro vh9_ w506 h9_ hb9
                  replace hr := hr.below hb9
                  replace hlo := hlo.below hb9
                  replace hhi := hhi.below hb9
                  replace kp := kp.below hb9
                  replace ha := ha.below hb9
                  replace b5 := b5.below hb9
                  replace b19 := b19.below hb9
                  replace b7 := b7.below hb9
                  replace bL := bL.below hb9
                  replace H0 := H0.trans (hb9.mono H0.size)
                  clear hb9
                  refine hK.out _ _ (b7.all3) (fun hHeld => ?_)
                  clear hK K
                  (try simp only [getElem_toArray, getElem_cons_succ, getElem_cons_zero, Act.put, setIfInBounds_toArray, set_cons_zero, set_cons_succ])
                  refine rd1 10 (by kernel_rfl) rfl (fun K hK => ?_)
                  rw [if_pos (by rfl)]
                  refine op_append_read (css := (css.take k)) (css' := (([([.bool s1, .slice A1 n1 c1, .slice D1 m1 e1] : List Value)] : List (List Value)) ++ css.drop k)) _ _ rfl elem_q rfl hlo rfl h9_ (fun cs h u hu => (List.mem_append.1 h).elim (fun h => (lit_all hq1 cs h u hu).1) (fun h => (qe_cells ha cs (List.mem_of_mem_drop h) u hu).1)) (.inr (by simp)) (by simp <;> omega) ?_
                  intro vh10_ w507 h10_ hb9
                  replace hr := hr.below hb9
                  replace hlo := hlo.below hb9
                  replace hhi := hhi.below hb9
                  replace kp := kp.below hb9
                  replace ha := ha.below hb9
                  replace h9_ := h9_.below hb9
                  replace b5 := b5.below hb9
                  replace b19 := b19.below hb9
                  replace b7 := b7.below hb9
                  replace bL := bL.below hb9
                  replace H0 := H0.trans (hb9.mono H0.size)
                  clear hb9
                  have hQ1 : QS w507 L vh10_ (ds.take k ++ p :: ds.drop k) := QS.ins h10_ ha ⟨_, _, _, _, _, _, _, rfl, kp⟩
                  rw [← HIN.out] at hQ1
                  obtain ⟨A1_, c1_, rfl, hy1, hy2⟩ := hQ1.form
                  refine hK.out _ _ (b7.all3) (fun hHeld => ?_)
                  clear hK K
                  (try simp only [getElem_toArray, getElem_cons_succ, getElem_cons_zero, Act.put, setIfInBounds_toArray, set_cons_zero, set_cons_succ])
                  refine tk 11 ?_ rfl (by kernel_rfl) (fun _ _ _ h => h) (by rfl) (by assumption) ?_ ?_
                  rotate_left
                  · (intro w hSw; (try dsimp only at hSw); go_simp; (try with_reducible rfl))
                  (try simp only [getElem_toArray, getElem_cons_succ, getElem_cons_zero, Act.put, setIfInBounds_toArray, set_cons_zero, set_cons_succ])
                  refine wpAnyH_done (by kernel_rfl) ?_ _
                  refine NoPanic.normal ?_
                  clear h10_ hy1 hy2 hr hlo hhi ha h9_
                  go_wp2_with fail
                  go_roundw
                  case rel => exact ⟨2, _, _, _, by omega, by go_num, rfl, hQ1, .inr (by rw [HIN.out]; simp <;> omega), by rw [step2_yes hE, ← HDS.out], b5, b19, H0⟩
                  case measure => simp [intOf]
              · obtain rfl : k = ds.length := by omega
                have el : decide ((ds.length : Int) < (ds.length : Int)) = false := by rw [decide_eq_false_iff_not]; omega
                have em : ((((ds.length : Nat) : Int)) == (ds.length : Int)) = true := by rw [beq_iff_eq]
                go_wp2_with fail
                have hD := drawn_below wr
                replace hQ := hQ.below hD
                replace kp := kp.below hD
                replace b5 := b5.below hD
                replace b19 := b19.below hD
                replace b7 := b7.below hD
                replace H0 := H0.trans (hD.mono H0.size)
                clear hD
                refine wp_region_noPanic ?_
                refine wp_region_held_drew (S := (fun V => V.cell? ⟨wx.heap.size, 0, none⟩ = some (.bool s1) ∧ V.cell? ⟨wx.heap.size, 1, none⟩ = some (.slice A1 n1 c1) ∧ V.cell? ⟨wx.heap.size, 2, none⟩ = some (.slice D1 m1 e1))) (by kernel_rfl) (b7.all3) (fun hHeld => ?_)
                generalize wr.drew = v800 at H0 hHeld hQ kp b5 b19 b7 ⊢
                refine todo [0, 1, 2, 3, 4] ?_
                iterate 5
                  refine tkT ?_ rfl (by kernel_rfl) (fun _ _ _ h => h) (by rfl) (by assumption) ?_ ?_
                  rotate_left
                  · (intro w hSw; (try dsimp only at hSw); go_simp; (try with_reducible rfl))
                  (try simp only [getElem_toArray, getElem_cons_succ, getElem_cons_zero, Act.put, setIfInBounds_toArray, set_cons_zero, set_cons_succ])
                refine tdone ?_
                refine todo [5, 6, 7, 8, 9, 10, 11] ?_
                iterate 7
                  refine tkS rfl (by kernel_rfl) (fun _ _ _ h => h) (by rfl) (by assumption) ?_
                  (try simp only [getElem_toArray, getElem_cons_succ, getElem_cons_zero, Act.put, setIfInBounds_toArray, set_cons_zero, set_cons_succ])
                refine tdone ?_
                refine tk 12 ?_ rfl (by kernel_rfl) (fun _ _ _ h => h) (by rfl) (by assumption) ?_ ?_
                rotate_left
                · (intro w hSw; (try dsimp only at hSw); go_simp; (try with_reducible rfl))
                (try simp only [getElem_toArray, getElem_cons_succ, getElem_cons_zero, Act.put, setIfInBounds_toArray, set_cons_zero, set_cons_succ])
                refine wpAnyH_done (by kernel_rfl) ?_ _
                refine NoPanic.normal ?_
                go_wp2_with fail
                have hD := drawn_below v800
                replace hQ := hQ.below hD
                replace kp := kp.below hD
                replace b5 := b5.below hD
                replace b19 := b19.below hD
                replace b7 := b7.below hD
                replace H0 := H0.trans (hD.mono H0.size)
                clear hD
                refine wp_region_noPanic ?_
                refine wp_region_held_drew (S := (fun V => V.cell? ⟨wx.heap.size, 0, none⟩ = some (.bool s1) ∧ V.cell? ⟨wx.heap.size, 1, none⟩ = some (.slice A1 n1 c1) ∧ V.cell? ⟨wx.heap.size, 2, none⟩ = some (.slice D1 m1 e1))) (by kernel_rfl) (b7.all3) (fun hHeld => ?_)
                generalize v800.drew = v801 at H0 hHeld hQ kp b5 b19 b7 ⊢
                refine todo [0, 1, 2, 3, 4] ?_
                iterate 5
                  refine tkT ?_ rfl (by kernel_rfl) (fun _ _ _ h => h) (by rfl) (by assumption) ?_ ?_
                  rotate_left
                  · (intro w hSw; (try dsimp only at hSw); go_simp; (try with_reducible rfl))
                  (try simp only [getElem_toArray, getElem_cons_succ, getElem_cons_zero, Act.put, setIfInBounds_toArray, set_cons_zero, set_cons_succ])
                refine tdone ?_
                refine todo [5, 6, 7, 8, 9, 10, 11] ?_
                iterate 7
                  refine tkS rfl (by kernel_rfl) (fun _ _ _ h => h) (by rfl) (by assumption) ?_
                  (try simp only [getElem_toArray, getElem_cons_succ, getElem_cons_zero, Act.put, setIfInBounds_toArray, set_cons_zero, set_cons_succ])
                refine tdone ?_
                refine tk 12 ?_ rfl (by kernel_rfl) (fun _ _ _ h => h) (by rfl) (by assumption) ?_ ?_
                rotate_left
                · (intro w hSw; (try dsimp only at hSw); go_simp; (try with_reducible rfl))
                (try simp only [getElem_toArray, getElem_cons_succ, getElem_cons_zero, Act.put, setIfInBounds_toArray, set_cons_zero, set_cons_succ])
                refine wpAnyH_done (by kernel_rfl) ?_ _
                refine NoPanic.normal ?_
                go_wp2_with fail
                have HIN : Hid (insT p ds = ds.take ds.length ++ p :: ds.drop ds.length) := Lib.hid (by rw [insT_at (k := ds.length) (by omega) HBF.out (fun d hd => by rw [List.getElem?_eq_none (Nat.le_refl _)] at hd; cases hd), List.getElem?_eq_none (Nat.le_refl _), if_neg (fun he => by cases he)])
                rcases hN with ⟨e1, e2, e3⟩ | hN
                · subst e1 e2 e3
                  obtain ⟨css, hr, ha⟩ := hQ
                  have hcl := All2.len ha
                  replace ha : QL v801 L css [] := ha
                  have hD := drawn_below v801
                  replace hr := hr.below hD
                  replace kp := kp.below hD
                  replace ha := ha.below hD
                  replace b5 := b5.below hD
                  replace b19 := b19.below hD
                  replace b7 := b7.below hD
                  replace H0 := H0.trans (hD.mono H0.size)
                  clear hD
                  refine wp_region_noPanic ?_
                  refine wp_region_held_drew (S := (fun V => V.cell? ⟨wx.heap.size, 0, none⟩ = some (.bool s1) ∧ V.cell? ⟨wx.heap.size, 1, none⟩ = some (.slice A1 n1 c1) ∧ V.cell? ⟨wx.heap.size, 2, none⟩ = some (.slice D1 m1 e1))) (by kernel_rfl) (b7.all3) (fun hHeld => ?_)
                  generalize v801.drew = v802 at H0 hHeld hr kp ha b5 b19 b7 ⊢
                  refine todo [0, 1, 2, 3, 4, 6, 7, 8] ?_
                  iterate 8
                    refine tkT ?_ rfl (by kernel_rfl) (fun _ _ _ h => h) (by rfl) (by assumption) ?_ ?_
                    rotate_left
                    · (intro w hSw; (try dsimp only at hSw); go_simp; (try with_reducible rfl))
                    (try simp only [getElem_toArray, getElem_cons_succ, getElem_cons_zero, Act.put, setIfInBounds_toArray, set_cons_zero, set_cons_succ])
                  refine tdone ?_
                  refine rd1 5 (by kernel_rfl) rfl (fun K hK => ?_)
                  go_simp
                  obtain ⟨W803, hV, bL, hb9, szW803⟩ := boxes1 v802 #[.bool s1, .slice A1 n1 c1, .slice D1 m1 e1] 37
                  rw [hV]
                  clear hV
                  replace hr := hr.below hb9
                  replace kp := kp.below hb9
                  replace ha := ha.below hb9
                  replace b5 := b5.below hb9
                  replace b19 := b19.below hb9
                  replace b7 := b7.below hb9
                  replace H0 := H0.trans (hb9.mono H0.size)
                  clear hb9
                  refine hK.out _ _ (b7.all3) (fun hHeld => ?_)
                  clear hK K
                  (try simp only [getElem_toArray, getElem_cons_succ, getElem_cons_zero, Act.put, setIfInBounds_toArray, set_cons_zero, set_cons_succ])
                  have hq1 : ([.bool s1, .slice A1 n1 c1, .slice D1 m1 e1] : List Value).all (fun u => u.oneCell' && notInt u) = true := by simp [notInt, Value.oneCell']
                  have hcss : css = [] := List.eq_nil_of_length_eq_zero (by rw [hcl]; rfl)
                  subst hcss
                  refine rd1 9 (by kernel_rfl) rfl (fun K hK => ?_)
                  rw [if_pos (by rfl)]
                  refine op_append_read (css := [[.bool s1, .slice A1 n1 c1, .slice D1 m1 e1]]) (css' := []) _ _ rfl elem_q rfl (Box.readl (cs := [.bool s1, .slice A1 n1 c1, .slice D1 m1 e1]) bL rfl) rfl hr (fun cs h => (by cases h)) (.inl rfl) (by simp <;> omega) ?_
                  intro vh9_ w804 h9_ hb9
                  replace hr := hr.below hb9
                  replace kp := kp.below hb9
                  replace ha := ha.below hb9
                  replace b5 := b5.below hb9
                  replace b19 := b19.below hb9
                  replace b7 := b7.below hb9
                  replace bL := bL.below hb9
                  replace H0 := H0.trans (hb9.mono H0.size)
                  clear hb9
                  refine hK.out _ _ (b7.all3) (fun hHeld => ?_)
                  clear hK K
                  (try simp only [getElem_toArray, getElem_cons_succ, getElem_cons_zero, Act.put, setIfInBounds_toArray, set_cons_zero, set_cons_succ])
                  refine rd1 10 (by kernel_rfl) rfl (fun K hK => ?_)
                  rw [if_pos (by rfl)]
                  refine op_append_read (css := []) (css' := [[.bool s1, .slice A1 n1 c1, .slice D1 m1 e1]]) _ _ rfl elem_q rfl hr rfl h9_ (fun cs h u hu => (lit_all hq1 cs h u hu).1) (.inr (by simp)) (by simp <;> omega) ?_
                  intro vh10_ w805 h10_ hb9
                  replace hr := hr.below hb9
                  replace kp := kp.below hb9
                  replace ha := ha.below hb9
                  replace h9_ := h9_.below hb9
                  replace b5 := b5.below hb9
                  replace b19 := b19.below hb9
                  replace b7 := b7.below hb9
                  replace bL := bL.below hb9
                  replace H0 := H0.trans (hb9.mono H0.size)
                  clear hb9
                  have hQ1 : QS w805 L vh10_ (([] : List Rat).take ([] : List Rat).length ++ p :: ([] : List Rat).drop ([] : List Rat).length) := QS.ins (css := []) (k := 0) h10_ ha ⟨_, _, _, _, _, _, _, rfl, kp⟩
                  rw [← HIN.out] at hQ1
                  obtain ⟨A1_, c1_, rfl, hy1, hy2⟩ := hQ1.form
                  refine hK.out _ _ (b7.all3) (fun hHeld => ?_)
                  clear hK K
                  (try simp only [getElem_toArray, getElem_cons_succ, getElem_cons_zero, Act.put, setIfInBounds_toArray, set_cons_zero, set_cons_succ])
                  refine tk 11 ?_ rfl (by kernel_rfl) (fun _ _ _ h => h) (by rfl) (by assumption) ?_ ?_
                  rotate_left
                  · (intro w hSw; (try dsimp only at hSw); go_simp; (try with_reducible rfl))
                  (try simp only [getElem_toArray, getElem_cons_succ, getElem_cons_zero, Act.put, setIfInBounds_toArray, set_cons_zero, set_cons_succ])
                  refine wpAnyH_done (by kernel_rfl) ?_ _
                  refine NoPanic.normal ?_
                  clear h10_ hy1 hy2 hr ha h9_
                  go_wp2_with fail
                  go_roundw
                  case rel => exact ⟨2, _, _, _, by omega, by go_num, rfl, hQ1, .inr (by rw [HIN.out]; simp <;> omega), by rw [step2_yes hE, ← HDS.out], b5, b19, H0⟩
                  case measure => simp [intOf]
                · obtain ⟨g, o, rfl⟩ := hQ.addr hN
                  obtain ⟨css, hr, ha⟩ := hQ
                  have hcl := All2.len ha
                  have hlc : ds.length ≤ c9 := hr.flat.2.1
                  have hcm : c9 ≤ maxLen := by obtain ⟨_, _, e8_, _, h8_⟩ := hr.shape; injection e8_ with _ _ e8_; rw [e8_]; exact h8_
                  have HCM := Lib.hid hcm
                  clear hcm
                  have hlo := part_low (k := ds.length) hr (Nat.le_refl _)
                  replace ha : QL v801 L css ds := ha
                  have hD := drawn_below v801
                  replace hr := hr.below hD
                  replace hlo := hlo.below hD
                  replace kp := kp.below hD
                  replace ha := ha.below hD
                  replace b5 := b5.below hD
                  replace b19 := b19.below hD
                  replace b7 := b7.below hD
                  replace H0 := H0.trans (hD.mono H0.size)
                  clear hD
                  refine wp_region_noPanic ?_
                  refine wp_region_held_drew (S := (fun V => V.cell? ⟨wx.heap.size, 0, none⟩ = some (.bool s1) ∧ V.cell? ⟨wx.heap.size, 1, none⟩ = some (.slice A1 n1 c1) ∧ V.cell? ⟨wx.heap.size, 2, none⟩ = some (.slice D1 m1 e1))) (by kernel_rfl) (b7.all3) (fun hHeld => ?_)
                  generalize v801.drew = v802 at H0 hHeld hr hlo kp ha b5 b19 b7 ⊢
                  refine todo [0, 1, 2, 3, 4, 6, 7, 8] ?_
                  iterate 8
                    refine tkT ?_ rfl (by kernel_rfl) (fun _ _ _ h => h) (by rfl) (by assumption) ?_ ?_
                    rotate_left
                    · (intro w hSw; (try dsimp only at hSw); go_simp; (try with_reducible rfl))
                    (try simp only [getElem_toArray, getElem_cons_succ, getElem_cons_zero, Act.put, setIfInBounds_toArray, set_cons_zero, set_cons_succ])
                  refine tdone ?_
                  refine rd1 5 (by kernel_rfl) rfl (fun K hK => ?_)
                  go_simp
                  obtain ⟨W803, hV, bL, hb9, szW803⟩ := boxes1 v802 #[.bool s1, .slice A1 n1 c1, .slice D1 m1 e1] 37
                  rw [hV]
                  clear hV
                  replace hr := hr.below hb9
                  replace hlo := hlo.below hb9
                  replace kp := kp.below hb9
                  replace ha := ha.below hb9
                  replace b5 := b5.below hb9
                  replace b19 := b19.below hb9
                  replace b7 := b7.below hb9
                  replace H0 := H0.trans (hb9.mono H0.size)
                  clear hb9
                  refine hK.out _ _ (b7.all3) (fun hHeld => ?_)
                  clear hK K
                  (try simp only [getElem_toArray, getElem_cons_succ, getElem_cons_zero, Act.put, setIfInBounds_toArray, set_cons_zero, set_cons_succ])
                  have hq1 : ([.bool s1, .slice A1 n1 c1, .slice D1 m1 e1] : List Value).all (fun u => u.oneCell' && notInt u) = true := by simp [notInt, Value.oneCell']
                  have hcd : css.drop ds.length = [] := List.drop_of_length_le (by rw [hcl]; exact Nat.le_refl _)
                  refine rd1 9 (by kernel_rfl) rfl (fun K hK => ?_)
                  rw [if_pos (by rfl)]
                  refine op_append_read (css := [[.bool s1, .slice A1 n1 c1, .slice D1 m1 e1]]) (css' := []) _ _ rfl elem_q rfl (Box.readl (cs := [.bool s1, .slice A1 n1 c1, .slice D1 m1 e1]) bL rfl) rfl (read_none _ _ (by first | exact Nat.le_trans (Nat.sub_le _ _) HCM.out | exact Nat.zero_le _)) (fun cs h => (by cases h)) (.inl rfl) (by simp <;> omega) ?_
                  intro vh9_ w804 h9_ hb9
                  replace hr := hr.below hb9
                  replace hlo := hlo.below hb9
                  replace kp := kp.below hb9
                  replace ha := ha.below hb9
                  replace b5 := b5.below hb9
                  replace b19 := b19.below hb9
                  replace b7 := b7.below hb9
                  replace bL := bL.below hb9
                  replace H0 := H0.trans (hb9.mono H0.size)
                  clear hb9
                  replace h9_ : ReadR w804 3 vh9_ ([[.bool s1, .slice A1 n1 c1, .slice D1 m1 e1]] ++ css.drop ds.length) := by rw [hcd]; exact h9_
                  refine hK.out _ _ (b7.all3) (fun hHeld => ?_)
                  clear hK K
                  (try simp only [getElem_toArray, getElem_cons_succ, getElem_cons_zero, Act.put, setIfInBounds_toArray, set_cons_zero, set_cons_succ])
                  refine rd1 10 (by kernel_rfl) rfl (fun K hK => ?_)
                  rw [if_pos (by rfl)]
                  refine op_append_read (css := (css.take ds.length)) (css' := (([([.bool s1, .slice A1 n1 c1, .slice D1 m1 e1] : List Value)] : List (List Value)) ++ css.drop ds.length)) _ _ rfl elem_q rfl hlo rfl h9_ (fun cs h u hu => (List.mem_append.1 h).elim (fun h => (lit_all hq1 cs h u hu).1) (fun h => (qe_cells ha cs (List.mem_of_mem_drop h) u hu).1)) (.inr (by simp)) (by simp <;> omega) ?_
                  intro vh10_ w805 h10_ hb9
                  replace hr := hr.below hb9
                  replace hlo := hlo.below hb9
                  replace kp := kp.below hb9
                  replace ha := ha.below hb9
                  replace h9_ := h9_.below hb9
                  replace b5 := b5.below hb9
                  replace b19 := b19.below hb9
                  replace b7 := b7.below hb9
                  replace bL := bL.below hb9
                  replace H0 := H0.trans (hb9.mono H0.size)
                  clear hb9
                  have hQ1 : QS w805 L vh10_ (ds.take ds.length ++ p :: ds.drop ds.length) := QS.ins h10_ ha ⟨_, _, _, _, _, _, _, rfl, kp⟩
                  rw [← HIN.out] at hQ1
                  obtain ⟨A1_, c1_, rfl, hy1, hy2⟩ := hQ1.form
                  refine hK.out _ _ (b7.all3) (fun hHeld => ?_)
                  clear hK K
                  (try simp only [getElem_toArray, getElem_cons_succ, getElem_cons_zero, Act.put, setIfInBounds_toArray, set_cons_zero, set_cons_succ])
                  refine tk 11 ?_ rfl (by kernel_rfl) (fun _ _ _ h => h) (by rfl) (by assumption) ?_ ?_
                  rotate_left
                  · (intro w hSw; (try dsimp only at hSw); go_simp; (try with_reducible rfl))
                  (try simp only [getElem_toArray, getElem_cons_succ, getElem_cons_zero, Act.put, setIfInBounds_toArray, set_cons_zero, set_cons_succ])
                  refine wpAnyH_done (by kernel_rfl) ?_ _
                  refine NoPanic.normal ?_
                  clear h10_ hy1 hy2 hr hlo ha h9_
                  go_wp2_with fail
                  go_roundw
                  case rel => exact ⟨2, _, _, _, by omega, by go_num, rfl, hQ1, .inr (by rw [HIN.out]; simp <;> omega), by rw [step2_yes hE, ← HDS.out], b5, b19, H0⟩
                  case measure => simp [intOf]
        · have HDS := Lib.hid hds
          clear hds
          go_wp2_with fail
          go_roundw
          case rel => exact ⟨i + 1, _, _, _, by omega, by go_num, rfl, hQ, hN, by rw [HDS.out, HCS.out]; exact HSE.out, H0⟩
          case measure => simp [intOf]; omega
    · obtain rfl : i = l.length := by omega
      clear hS
      go_wp2_with fail
      go_ret
      refine ⟨_, rfl, ?_, H0⟩
      have h1 := HCS.out
      rw [List.take_length] at h1
      rw [← h1]; exact hQ
end
end Go.Proofs.YtpgkkkodniiilaaGreatDoor
