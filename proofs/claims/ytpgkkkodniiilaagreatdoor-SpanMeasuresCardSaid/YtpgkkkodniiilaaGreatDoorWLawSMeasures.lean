/-
  The walk of the law SpanMeasures.
-/
import Derived.Test.YtpgkkkodniiilaaGreatDoorWSq
import Derived.Test.YtpgkkkodniiilaaGreatDoorWIs
import Derived.Test.YtpgkkkodniiilaaGreatDoorWMB
import Derived.Test.YtpgkkkodniiilaaGreatDoorWSpCl
import Derived.IntWalk
import Derived.Deep.Cut
namespace Go.Proofs.YtpgkkkodniiilaaGreatDoor
open List (getElem_toArray getElem_cons_succ getElem_cons_zero setIfInBounds_toArray set_cons_zero set_cons_succ)
open Go.RowKit
section
variable {f0 h0 f1 h1 f2 h2 f3 h3 f4 h4 f5 h5 f6 h6 f7 h7 f8 h8 f9 h9 f10 h10 f11 h11 : Bool} {A0 A1 A3 A4 A5 A6 A7 A8 A9 D0 D1 D3 D4 D5 D6 D7 : Option Addr} {n0 n1 n3 n4 n5 n6 n7 c0 c1 c3 c4 c5 c6 c7 c8 c9 m0 m1 m3 m4 m5 m6 m7 e0 e1 e3 e4 e5 e6 e7 : Nat} {s0 s1 s3 s4 s5 s6 s7 : Bool} {q0 q1 q2 q3 q4 q5 q6 q7 : Rat} {z0 z1 z2 z3 z4 z5 z6 z7 z8 z9 z10 z11 : Int} {L L0 L1 x y : Nat} {k : Int} {w : World}
variable {o0 o1 o2 o3 : Option Rat} {l l' : List Sp}
/-- A list of spans of the reference, beside the tape. -/
def RfV (w : World) (v : Value) (l : List Sp) : Prop := SrS w 5 v l
theorem RfV.below {w' : World} {v : Value} (h : RfV w v l) (hb : Below w.heap.size w w') : RfV w' v l := SrS.below h hb
theorem RfV.tape {w' : World} {b : Nat} {v : Value} (h : RfV w v l) (ht : Tape w b) (hg : w.grownBy w' (some b)) : RfV w' v l := by
  obtain ⟨css, h1, h2⟩ := h
  refine ⟨css, h1.tape ht hg fun cs hcs => ?_, h2.mono fun _ _ r => r.tape ht hg⟩
  obtain ⟨q, _, _, _, _, _, _, _, _, _, _, _, _, _, _, _, _, rfl, _⟩ := All2.mem h2 cs hcs
  exact ⟨_, rfl⟩
theorem rclass_x {v : Value} {q : Rat} {k : Int} (hk : clsL l q = k) (hS : RfV w v l) (hq : PQ w s4 (.slice A4 n4 c4) (.slice D4 m4 e4) q L0) (hL0 : L0 ≤ 100) :
    Calls Tryz.prog 19 #[v, .agg #[.bool s4, .slice A4 n4 c4, .slice D4 m4 e4]] w fun e w' => e = .returned (.int .i64 k) ∧ Below w.heap.size w w' := by
  rw [← hk]; exact class_v hS hq (by decide) hL0
theorem filt_take {l : List Sp} {i : Nat} {s : Sp} (h : l[i]? = some s) : (l.take (i + 1)).filter bothB = (l.take i).filter bothB ++ if bothB s then [s] else [] := by
  rw [List.take_add_one, h, List.filter_append]
  show _ ++ [s].filter bothB = _
  cases hb : bothB s <;> simp [hb]
theorem filt_le (l : List Sp) (i : Nat) : ((l.take i).filter bothB).length ≤ i := Nat.le_trans (List.length_filter_le _ _) (List.length_take_le _ _)
theorem Is_below {e : Ending} {w' : World} {x : Bool} (h : e = .returned (.bool x) ∧ w' = w) : e = .returned (.bool x) ∧ Below w.heap.size w w' := ⟨h.1, by rw [h.2]; exact Below.refl _ _⟩
theorem fin_both {ts : List Rat} : (BothS (mkS none ts) → finT false ts = false) ∧ ∀ lo, BothS (mkS (some lo) ts) → finT true ts = false := by
  induction ts with
  | nil => exact ⟨fun _ => rfl, fun lo h => by obtain ⟨a, b, e⟩ := h _ (List.mem_cons_self ..); cases e⟩
  | cons t ts ih => exact ⟨fun h => ih.2 (some t) h, fun lo h => ih.1 fun s hs => h s (List.mem_cons_of_mem _ hs)⟩
theorem bnd_of {g : Bool} {ts : List Rat} (h : BothS (spansOf g ts)) : Bnd g ts := by
  cases g
  · exact ⟨rfl, fin_both.1 h⟩
  · exfalso
    cases ts with
    | nil => obtain ⟨a, b, e⟩ := h _ (List.mem_cons_self ..); cases e
    | cons t ts => obtain ⟨a, b, e⟩ := h _ (List.mem_cons_self ..); cases e
set_option maxRecDepth 100000 in
set_option maxHeartbeats 16000000 in
theorem spanmeasures_any {v : Value} {a9_ : Addr} (hE : w.cell? ⟨1, 0, none⟩ = some (.iface 230 (.pointer (some a9_)))) (HI : Ints w v) :
    Calls Tryz.prog 6 #[v] w fun e w' => e = .returned (.bool true) ∧ Below w.heap.size w w' := by
  have hgl := World.block_lt_of_cell? w _ hE
  have HG := Lib.hid (fun (W : World) (h : Below w.heap.size w W) => (h.cell hgl).trans hE)
  clear hE hgl
  go_enter Tryz.func6, Tryz.ntmps6
  go_wp2_with fail
  refine (new_any HI).mono ?_
  rintro e w1 ⟨rfl, hT, H0, hsz⟩
  have hlt : w.heap.size < w1.heap.size := by omega
  clear hsz HI
  go_wp2_with fail
  refine (smade_v hT hlt).mono ?_
  rintro e w2 ⟨v0_, g0, t0, rfl, h0_, ha0, hl0, hT', hg⟩
  replace hlt := Nat.lt_of_lt_of_le hlt hg.size
  replace H0 := H0.grown hg H0.size (by rintro k hk; injection hk with hk; omega)
  clear hT
  have hT := hT'
  clear hT' hg
  have k0 : RfV w2 v0_ (spansOf g0 t0) := h0_
  clear h0_
  have HA0 := Lib.hid ha0
  clear ha0
  go_wp2_with fail
  refine (tq_v hT hlt).mono ?_
  rintro e w3 ⟨q0, s3, A3, n3, c3, D3, m3, e3, rfl, p0, hT', hg⟩
  replace k0 := k0.tape hT hg
  replace hlt := Nat.lt_of_lt_of_le hlt hg.size
  replace H0 := H0.grown hg H0.size (by rintro k hk; injection hk with hk; omega)
  clear hT
  have hT := hT'
  clear hT' hg
  have hl_4 := hlt
  obtain ⟨W4, hW, b5, hbW, hszW4⟩ := boxes1 w3 #[.bool s3, .slice A3 n3 c3, .slice D3 m3 e3] 37
  skip
  skip
  replace k0 := k0.below hbW
  replace p0 := p0.below hbW
  replace hT := hT.keep hbW hlt
  replace hlt := Nat.lt_of_lt_of_le hlt hbW.size
  replace H0 := H0.trans (hbW.mono H0.size)
  clear hbW
  go_wp2_with fail
  clear hW
  clear hszW4
  refine (next_any 2 (by omega) (by omega) hT).mono ?_
  rintro e w5 ⟨r, rfl, hr, hT', hg⟩
  replace k0 := k0.tape hT hg
  replace p0 := p0.tape hT hg
  replace b5 := b5.other hg (by omega)
  replace hlt := Nat.lt_of_lt_of_le hlt hg.size
  replace H0 := H0.grown hg H0.size (by rintro k hk; injection hk with hk; omega)
  clear hT
  have hT := hT'
  clear hT' hg
  clear hT hlt
  rcases Decidable.em (r = 0) with hr0 | hr0
  · have er : (((r : Nat) : Int) == 0) = true := by rw [hr0]; rfl
    clear hr hr0
    obtain ⟨A, c, rfl, hc1, hc2⟩ := SrS.form k0
    unfold maxLen at hc2
    have HK := Lib.hid k0
    have HP := Lib.hid p0
    have HB5 := Lib.hid b5
    have HH := Lib.hid H0
    clear k0 p0 b5 H0
    generalize hll : spansOf g0 t0 = l at HK hc1 ⊢
    have HLL := Lib.hid hll
    have hln : l.length ≤ 9 := by rw [← hll]; have := set_len g0 t0; omega
    clear hll
    go_wp2_with fail
    obtain ⟨wz, hwz⟩ : ∃ W, W = w5 := ⟨_, rfl⟩
    subst hwz
    go_loopw [6, 30] (fun t6 t30 wr => ∃ (i : Nat) (A9 : Option Addr) (c9 : Nat) (css : List (List Value)), i ≤ l.length ∧ t30 = .int .i64 (i : Int) ∧ t6 = .slice A9 css.length c9 ∧ OwnE wr wz.heap.size 39 8 (.slice A9 css.length c9) css ∧ SrL wr 5 css ((l.take i).filter bothB) ∧ Below wz.heap.size wz wr) (fun _ t30 _ => l.length - (intOf t30).toNat)
    case atStart => exact ⟨0, none, 0, [], Nat.zero_le _, rfl, rfl, OwnE.nil _ _ _ _, trivial, Below.refl _ _⟩
    case round =>
      obtain ⟨i, A9, c9, css, hi, rfl, rfl, hown, hall, H0⟩ := hrel
      have hcl : css.length ≤ i := by have h1 := All2.len hall; have := filt_le l i; omega
      by_cases hlt : i < l.length
      · obtain ⟨sp, hsp⟩ : ∃ s, l[i]? = some s := ⟨_, List.getElem?_eq_getElem hlt⟩
        obtain ⟨g, o, s0, A0, n0, c0, D0, m0, e0, s1, A1, n1, c1, D1, m1, e1, f0, h0, rfl, cc0, cc1, cc2, cc3, cc4, cc5, cc6, cc7, y0, y1⟩ := (SrS.below HK.out H0).elem hsp
        have HSP := Lib.hid (filt_take hsp)
        clear hsp
        obtain ⟨W0, hW, b6, hbW, hsz⟩ := boxes1 wr #[.bool s0, .slice A0 n0 c0, .slice D0 m0 e0, .bool s1, .slice A1 n1 c1, .slice D1 m1 e1, .bool f0, .bool h0] 39
        clear hsz
        replace hown := hown.below hbW
        replace hall := hall.below hbW
        replace y0 := y0.below hbW
        replace y1 := y1.below hbW
        replace H0 := H0.trans (hbW.mono H0.size)
        obtain ⟨x0, x1, x2, x3, x4, x5, x6, x7⟩ := b6.cells8
        go_upto_region 8 with fail
        clear hW hbW x0 cc0 x1 cc1 x2 cc2 x3 cc3 x4 cc4 x5 cc5 x6 cc6 x7 cc7
        rcases hlo : sp.lo with _ | p <;> rcases hhi : sp.hi with _ | p'
        · obtain rfl := y0.no hlo
          obtain rfl := y1.no hhi
          obtain ⟨x0, x1, x2, x3, x4, x5, x6, x7⟩ := b6.cells8
          have hbb : bothB sp = false := by unfold bothB; rw [hlo, hhi]; rfl
          clear hlo hhi
          go_wp2_with fail
          clear x0 x1 x2 x3 x4 x5 x6 x7
          go_roundw
          case rel => exact ⟨i + 1, _, _, _, by omega, by go_num, rfl, hown, by rw [HSP.out, hbb]; simpa using hall, H0⟩
          case measure => simp [intOf]; omega
        · obtain rfl := y0.no hlo
          obtain ⟨rfl, -⟩ := y1.yes hhi
          obtain ⟨x0, x1, x2, x3, x4, x5, x6, x7⟩ := b6.cells8
          have hbb : bothB sp = false := by unfold bothB; rw [hlo, hhi]; rfl
          clear hlo hhi
          go_wp2_with fail
          clear x0 x1 x2 x3 x4 x5 x6 x7
          go_roundw
          case rel => exact ⟨i + 1, _, _, _, by omega, by go_num, rfl, hown, by rw [HSP.out, hbb]; simpa using hall, H0⟩
          case measure => simp [intOf]; omega
        · obtain ⟨rfl, -⟩ := y0.yes hlo
          obtain rfl := y1.no hhi
          obtain ⟨x0, x1, x2, x3, x4, x5, x6, x7⟩ := b6.cells8
          have hbb : bothB sp = false := by unfold bothB; rw [hlo, hhi]; rfl
          clear hlo hhi
          go_wp2_with fail
          clear x0 x1 x2 x3 x4 x5 x6 x7
          go_roundw
          case rel => exact ⟨i + 1, _, _, _, by omega, by go_num, rfl, hown, by rw [HSP.out, hbb]; simpa using hall, H0⟩
          case measure => simp [intOf]; omega
        · obtain ⟨rfl, -⟩ := y0.yes hlo
          obtain ⟨rfl, -⟩ := y1.yes hhi
          obtain ⟨x0, x1, x2, x3, x4, x5, x6, x7⟩ := b6.cells8
          have hbb : bothB sp = true := by unfold bothB; rw [hlo, hhi]; rfl
          clear hlo hhi
          have hq1 : ([.bool s0, .slice A0 n0 c0, .slice D0 m0 e0, .bool s1, .slice A1 n1 c1, .slice D1 m1 e1, .bool false, .bool false] : List Value).all (fun u => u.oneCell' && notInt u) = true := by simp [notInt, Value.oneCell']
          have ln1 : css.length ≤ 100000 := by omega
          have lB1 : wz.heap.size ≤ W0.heap.size := H0.size
          go_wp2_with (at_builtin; refine wpList_append_row (v := .slice A9 css.length c9) (css := css) rfl _ _ rfl elem_s6 wz.heap.size [.bool s0, .slice A0 n0 c0, .slice D0 m0 e0, .bool s1, .slice A1 n1 c1, .slice D1 m1 e1, .bool false, .bool false] rfl hown rfl rfl hq1 ln1 lB1 ?_; intro v1 w6 hown1 hg1)
          clear x0 x1 x2 x3 x4 x5 x6 x7
          have hall1 : SrL w6 5 (css ++ [([.bool s0, .slice A0 n0 c0, .slice D0 m0 e0, .bool s1, .slice A1 n1 c1, .slice D1 m1 e1, .bool false, .bool false] : List Value)]) ((l.take (i + 1)).filter bothB) := by rw [HSP.out, if_pos hbb]; exact All2.snoc (hall.own hown hg1) ⟨_, _, _, _, _, _, _, _, _, _, _, _, _, _, _, _, rfl, y0.own hown hg1, y1.own hown hg1⟩
          have H01 := H0.trans (hown.trod hg1 lB1)
          generalize css ++ [([.bool s0, .slice A0 n0 c0, .slice D0 m0 e0, .bool s1, .slice A1 n1 c1, .slice D1 m1 e1, .bool false, .bool false] : List Value)] = cs1_ at hown1 hall1
          obtain ⟨A1_, c1_, rfl, hx1, hx2⟩ := hown1.form
          clear hx1 hx2 hown hall y0 y1 hg1 H0 ln1 lB1 hcl hq1 b6
          go_wp2_with fail
          go_roundw
          case rel => exact ⟨i + 1, _, _, _, by omega, by go_num, rfl, hown1, hall1, H01⟩
          case measure => simp [intOf]; omega
      · obtain rfl : i = l.length := by omega
        rw [List.take_length] at hall
        obtain ⟨us, hus, hau, hbu, hlu⟩ := filt_is (g := g0) HA0.out
        rw [HLL.out] at hus
        rw [hus] at hall
        have k1 : RfV wr (.slice A9 css.length c9) (spansOf false us) := ⟨_, hown.read, hall⟩
        have en2 : css.length = (spansOf false us).length := All2.len hall
        clear hcl
        rw [en2] at k1 ⊢
        clear en2
        have p0 := HP.out.below H0
        have b5 := HB5.out.below H0
        replace H0 := HH.out.trans (H0.mono HH.out.size)
        have hu8 : us.length ≤ 8 := by omega
        have HAU := Lib.hid hau
        have HBU := Lib.hid hbu
        clear hown hall hus hau hbu hlu hi hlt HK HP HB5 HH
        go_wp2_with fail
        refine (writeall_v k1 (by have := set_len false us; omega) (by decide)).mono ?_
        rintro e w700 ⟨y_, rfl, s_, hb⟩
        replace k1 := k1.below hb
        replace p0 := p0.below hb
        replace b5 := b5.below hb
        replace H0 := H0.trans (hb.mono H0.size)
        clear hb
        have kx : SetV w700 5 y_ false us := ⟨s_, HAU.out⟩
        clear s_
        obtain ⟨cb50, cb51, cb52⟩ := b5.cells3
        go_wp2_with fail
        clear cb50 cb51 cb52
        refine (toq_v p0 (by decide)).mono ?_
        rintro e w701 ⟨s4, A4, n4, c4, D4, m4, e4, rfl, p4, hb⟩
        replace k1 := k1.below hb
        replace p0 := p0.below hb
        replace kx := kx.below hb
        replace b5 := b5.below hb
        replace H0 := H0.trans (hb.mono H0.size)
        clear hb
        go_wp2_with fail
        obtain ⟨kc, hkc⟩ : ∃ k, clsL (spansOf false us) q0 = k := ⟨_, rfl⟩
        have HKC := Lib.hid hkc
        clear hkc
        have ekc : ((kc : Int) != kc) = false := by simp
        have ekd : ((kc : Int) == kc) = true := by simp
        refine (pclass_x HKC.out kx p4.rq (by omega) (by decide) (by decide)).mono ?_
        rintro e w702 ⟨rfl, hb⟩
        replace k1 := k1.below hb
        replace p0 := p0.below hb
        replace kx := kx.below hb
        replace p4 := p4.below hb
        replace b5 := b5.below hb
        replace H0 := H0.trans (hb.mono H0.size)
        clear hb
        go_wp2_with fail
        clear p4
        refine (samples_v kx.1 (set_ok kx.2) (set_sep kx.2) (by have := set_len false us; omega) (by decide)).mono ?_
        rintro e w703 ⟨y2_, rfl, kn, hb⟩
        replace k1 := k1.below hb
        replace p0 := p0.below hb
        replace kx := kx.below hb
        replace b5 := b5.below hb
        replace H0 := H0.trans (hb.mono H0.size)
        clear hb
        obtain ⟨A8, c8, rfl, hx8, hy8⟩ := kn.form
        rw [List.length_map] at kn hx8 ⊢
        clear hx8 hy8
        go_wp2_with fail
        refine (length_v kx HBU.out 4 (by omega) (by decide) (by decide)).mono ?_
        rintro e w704 ⟨s5, A5, n5, c5, D5, m5, e5, rfl, k5, hb⟩
        replace k1 := k1.below hb
        replace p0 := p0.below hb
        replace kx := kx.below hb
        replace kn := kn.below hb
        replace b5 := b5.below hb
        replace H0 := H0.trans (hb.mono H0.size)
        clear hb
        clear kx
        replace k5 : NQ w704 s5 (.slice A5 n5 c5) (.slice D5 m5 e5) _ 51 := k5
        have lb5_705 := b5.lt
        obtain ⟨W705, hW, b14, hbW, hszW705⟩ := boxes1 w704 #[.bool s5, .slice A5 n5 c5, .slice D5 m5 e5] 28
        skip
        skip
        replace k1 := k1.below hbW
        replace p0 := p0.below hbW
        replace kn := kn.below hbW
        replace k5 := k5.below hbW
        replace b5 := b5.below hbW
        replace H0 := H0.trans (hbW.mono H0.size)
        clear hbW
        go_wp2_with fail
        clear hW
        clear hszW705
        refine (rlen_yes k1 (Bnd.both HBU.out) (by have := Bnd.len HBU.out; omega) (by decide)).mono ?_
        rintro e w706 ⟨s6, A6, n6, c6, D6, m6, e6, rfl, k6, hb⟩
        replace k1 := k1.below hb
        replace p0 := p0.below hb
        replace kn := kn.below hb
        replace k5 := k5.below hb
        replace b5 := b5.below hb
        replace b14 := b14.below hb
        replace H0 := H0.trans (hb.mono H0.size)
        clear hb
        have lb5_707 := b5.lt
        have lb14_707 := b14.lt
        obtain ⟨W707, hW, b16, hbW, hszW707⟩ := boxes1 w706 #[.bool s6, .slice A6 n6 c6, .slice D6 m6 e6] 37
        skip
        skip
        replace k1 := k1.below hbW
        replace p0 := p0.below hbW
        replace kn := kn.below hbW
        replace k5 := k5.below hbW
        replace k6 := k6.below hbW
        replace b5 := b5.below hbW
        replace b14 := b14.below hbW
        replace H0 := H0.trans (hbW.mono H0.size)
        clear hbW
        go_wp2_with fail
        clear hW
        clear hszW707
        have hD := drawn_below W707
        replace k1 := k1.below hD
        replace p0 := p0.below hD
        replace kn := kn.below hD
        replace k5 := k5.below hD
        replace k6 := k6.below hD
        replace b5 := b5.below hD
        replace b14 := b14.below hD
        replace b16 := b16.below hD
        replace H0 := H0.trans (hD.mono H0.size)
        clear hD
        refine wp_region_noPanic ?_
        refine wp_region_held_drew (S := (fun V => V.cell? ⟨w3.heap.size, 0, none⟩ = some (.bool s3) ∧ V.cell? ⟨w3.heap.size, 1, none⟩ = some (.slice A3 n3 c3) ∧ V.cell? ⟨w3.heap.size, 2, none⟩ = some (.slice D3 m3 e3) ∧ V.cell? ⟨w704.heap.size, 0, none⟩ = some (.bool s5) ∧ V.cell? ⟨w704.heap.size, 1, none⟩ = some (.slice A5 n5 c5) ∧ V.cell? ⟨w704.heap.size, 2, none⟩ = some (.slice D5 m5 e5) ∧ V.cell? ⟨w706.heap.size, 0, none⟩ = some (.bool s6) ∧ V.cell? ⟨w706.heap.size, 1, none⟩ = some (.slice A6 n6 c6) ∧ V.cell? ⟨w706.heap.size, 2, none⟩ = some (.slice D6 m6 e6))) (by kernel_rfl) (b5.and3 (b14.and3 (b16.all3))) (fun hHeld => ?_)
        generalize W707.drew = v708 at H0 hHeld k1 p0 kn k5 k6 b5 b14 b16 ⊢
        refine todo [0, 1, 2, 3, 4, 5, 6, 7, 8, 9] ?_
        iterate 10
          refine tkT ?_ rfl (by kernel_rfl) (fun _ _ _ h => h) (by rfl) (by assumption) ?_ ?_
          rotate_left
          · (intro w hSw; (try dsimp only at hSw); go_simp; (try with_reducible rfl))
          (try simp only [getElem_toArray, getElem_cons_succ, getElem_cons_zero, Act.put, setIfInBounds_toArray, set_cons_zero, set_cons_succ])
        refine tdone ?_
        refine rd1 10 (by kernel_rfl) rfl (fun K hK => ?_)
        go_simp
        go_at_call 19
        refine (rclass_x HKC.out k1 p0 (by decide)).mono ?_
        rintro e w709 ⟨rfl, hb⟩
        replace k1 := k1.below hb
        replace p0 := p0.below hb
        replace kn := kn.below hb
        replace k5 := k5.below hb
        replace k6 := k6.below hb
        replace b5 := b5.below hb
        replace b14 := b14.below hb
        replace b16 := b16.below hb
        replace H0 := H0.trans (hb.mono H0.size)
        clear hb
        go_wp2_with fail
        refine hK.out _ _ (b5.and3 (b14.and3 (b16.all3))) (fun hHeld => ?_)
        clear hK K
        (try simp only [getElem_toArray, getElem_cons_succ, getElem_cons_zero, Act.put, setIfInBounds_toArray, set_cons_zero, set_cons_succ])
        refine todo [11, 12, 13, 14, 16, 15, 17, 18, 19, 20, 21, 22, 23, 24, 25, 26, 27, 28, 29, 30] ?_
        iterate 20
          refine tkT ?_ rfl (by kernel_rfl) (fun _ _ _ h => h) (by rfl) (by assumption) ?_ ?_
          rotate_left
          · (intro w hSw; (try dsimp only at hSw); go_simp; (try with_reducible rfl))
          (try simp only [getElem_toArray, getElem_cons_succ, getElem_cons_zero, Act.put, setIfInBounds_toArray, set_cons_zero, set_cons_succ])
        refine tdone ?_
        refine rd1 31 (by kernel_rfl) rfl (fun K hK => ?_)
        go_simp
        go_at_call 31
        refine (toq_v k6 (by decide)).mono ?_
        rintro e w710 ⟨s7, A7, n7, c7, D7, m7, e7, rfl, k7, hb⟩
        replace k1 := k1.below hb
        replace p0 := p0.below hb
        replace kn := kn.below hb
        replace k5 := k5.below hb
        replace k6 := k6.below hb
        replace b5 := b5.below hb
        replace b14 := b14.below hb
        replace b16 := b16.below hb
        replace H0 := H0.trans (hb.mono H0.size)
        clear hb
        clear k6
        go_wp2_with fail
        refine hK.out _ _ (b5.and3 (b14.and3 (b16.all3))) (fun hHeld => ?_)
        clear hK K
        (try simp only [getElem_toArray, getElem_cons_succ, getElem_cons_zero, Act.put, setIfInBounds_toArray, set_cons_zero, set_cons_succ])
        refine rd1 32 (by kernel_rfl) rfl (fun K hK => ?_)
        go_simp
        go_at_call 40
        refine (sameq_d k5 k7 (decide_eq_true rfl)).mono ?_
        rintro e w711 ⟨rfl, hb⟩
        replace k1 := k1.below hb
        replace p0 := p0.below hb
        replace kn := kn.below hb
        replace k5 := k5.below hb
        replace k7 := k7.below hb
        replace b5 := b5.below hb
        replace b14 := b14.below hb
        replace b16 := b16.below hb
        replace H0 := H0.trans (hb.mono H0.size)
        clear hb
        clear k5
        clear k7
        go_wp2_with fail
        refine hK.out _ _ (b5.and3 (b14.and3 (b16.all3))) (fun hHeld => ?_)
        clear hK K
        (try simp only [getElem_toArray, getElem_cons_succ, getElem_cons_zero, Act.put, setIfInBounds_toArray, set_cons_zero, set_cons_succ])
        refine todo [33, 34, 35, 36, 37, 38, 39] ?_
        iterate 7
          refine tkT ?_ rfl (by kernel_rfl) (fun _ _ _ h => h) (by rfl) (by assumption) ?_ ?_
          rotate_left
          · (intro w hSw; (try dsimp only at hSw); go_simp; (try with_reducible rfl))
          (try simp only [getElem_toArray, getElem_cons_succ, getElem_cons_zero, Act.put, setIfInBounds_toArray, set_cons_zero, set_cons_succ])
        refine tdone ?_
        refine todo [40, 41, 42, 43] ?_
        iterate 4
          refine tkS rfl (by kernel_rfl) (fun _ _ _ h => h) (by rfl) (by assumption) ?_
          (try simp only [getElem_toArray, getElem_cons_succ, getElem_cons_zero, Act.put, setIfInBounds_toArray, set_cons_zero, set_cons_succ])
        refine tdone ?_
        refine todo [44, 45] ?_
        iterate 2
          refine tkT ?_ rfl (by kernel_rfl) (fun _ _ _ h => h) (by rfl) (by assumption) ?_ ?_
          rotate_left
          · (intro w hSw; (try dsimp only at hSw); go_simp; (try with_reducible rfl))
          (try simp only [getElem_toArray, getElem_cons_succ, getElem_cons_zero, Act.put, setIfInBounds_toArray, set_cons_zero, set_cons_succ])
        refine tdone ?_
        refine wpAnyH_done (by kernel_rfl) ?_ _
        refine NoPanic.normal ?_
        clear b14
        clear b16
        clear b5
        clear p0
        go_wp2_with fail
        have hl9 : (spansOf false us).length ≤ 9 := by have := set_len false us; omega
        generalize spansOf false us = l at k1 kn hl9 ⊢
        have HN := Lib.hid kn
        have HK := Lib.hid k1
        have HH := Lib.hid H0
        clear kn k1 H0 HKC
        obtain ⟨wy, hwy⟩ : ∃ W, W = w711 := ⟨_, rfl⟩
        subst hwy
        go_loopw [18, 120] (fun _ t120 wr => ∃ i : Nat, i ≤ l.length ∧ t120 = .int .i64 (i : Int) ∧ Below wy.heap.size wy wr) (fun _ t120 _ => l.length - (intOf t120).toNat)
        case atStart => exact ⟨0, Nat.zero_le _, rfl, Below.refl _ _⟩
        case round =>
          obtain ⟨i, hi, rfl, H0⟩ := hrel
          by_cases hlt : i < l.length
          · obtain ⟨sp, hsp⟩ : ∃ s, l[i]? = some s := ⟨_, List.getElem?_eq_getElem hlt⟩
            have hsm : (l.map samS)[i]? = some (samS sp) := by rw [List.getElem?_map, hsp]; rfl
            obtain ⟨g, o, s0, A0, n0, c0, D0, m0, e0, s1, A1, n1, c1, D1, m1, e1, f0, h0, rfl, cc0, cc1, cc2, cc3, cc4, cc5, cc6, cc7, y0, y1⟩ := (SrS.below HK.out H0).elem hsp
            obtain ⟨g', o', s4, A4, n4, c4, D4, m4, e4, rfl, cd0, cd1, cd2, k9⟩ := (HN.out.below H0).elem hsm
            have p0 : CellF wr _ _ := cc0
            have p1 : CellF wr _ _ := cc1
            have p2 : CellF wr _ _ := cc2
            have p3 : CellF wr _ _ := cc3
            have p4 : CellF wr _ _ := cc4
            have p5 : CellF wr _ _ := cc5
            have p6 : CellF wr _ _ := cc6
            have p7 : CellF wr _ _ := cc7
            have r0 : CellF wr _ _ := cd0
            have r1 : CellF wr _ _ := cd1
            have r2 : CellF wr _ _ := cd2
            clear hsp hsm cc0 cc1 cc2 cc3 cc4 cc5 cc6 cc7 cd0 cd1 cd2
            go_wp2_with fail
            have hD := drawn_below wr
            replace y0 := y0.below hD
            replace y1 := y1.below hD
            replace k9 := k9.below hD
            replace p0 := p0.below hD
            replace p1 := p1.below hD
            replace p2 := p2.below hD
            replace p3 := p3.below hD
            replace p4 := p4.below hD
            replace p5 := p5.below hD
            replace p6 := p6.below hD
            replace p7 := p7.below hD
            replace r0 := r0.below hD
            replace r1 := r1.below hD
            replace r2 := r2.below hD
            replace H0 := H0.trans (hD.mono H0.size)
            clear hD
            refine wp_region_noPanic ?_
            refine wp_region_held_drew (S := (fun V => V.cell? ⟨g', o' + i * 3, none⟩ = some (.bool s4) ∧ V.cell? ⟨g', o' + i * 3 + 1, none⟩ = some (.slice A4 n4 c4) ∧ V.cell? ⟨g', o' + i * 3 + 2, none⟩ = some (.slice D4 m4 e4) ∧ V.cell? ⟨g, o + i * 8, none⟩ = some (.bool s0) ∧ V.cell? ⟨g, o + i * 8 + 1, none⟩ = some (.slice A0 n0 c0) ∧ V.cell? ⟨g, o + i * 8 + 2, none⟩ = some (.slice D0 m0 e0) ∧ V.cell? ⟨g, o + i * 8 + 3, none⟩ = some (.bool s1) ∧ V.cell? ⟨g, o + i * 8 + 4, none⟩ = some (.slice A1 n1 c1) ∧ V.cell? ⟨g, o + i * 8 + 5, none⟩ = some (.slice D1 m1 e1) ∧ V.cell? ⟨g, o + i * 8 + 6, none⟩ = some (.bool f0) ∧ V.cell? ⟨g, o + i * 8 + 7, none⟩ = some (.bool h0))) (by kernel_rfl) ⟨r0.eq, r1.eq, r2.eq, p0.eq, p1.eq, p2.eq, p3.eq, p4.eq, p5.eq, p6.eq, p7.eq⟩ (fun hHeld => ?_)
            generalize wr.drew = v900 at H0 hHeld y0 y1 k9 p0 p1 p2 p3 p4 p5 p6 p7 r0 r1 r2 ⊢
            refine todo [0, 1, 4, 5, 2, 6, 3, 7] ?_
            iterate 8
              refine tkT ?_ rfl (by kernel_rfl) (fun _ _ _ h => h) (by rfl) (by assumption) ?_ ?_
              rotate_left
              · (intro w hSw; (try dsimp only at hSw); go_simp; (try with_reducible rfl))
              (try simp only [getElem_toArray, getElem_cons_succ, getElem_cons_zero, Act.put, setIfInBounds_toArray, set_cons_zero, set_cons_succ])
            refine tdone ?_
            refine rd1 8 (by kernel_rfl) rfl (fun K hK => ?_)
            go_simp
            go_at_call 41
            refine (rsample_v y0 y1 (by decide)).mono ?_
            rintro e w901 ⟨s5, A5, n5, c5, D5, m5, e5, rfl, k5, hb⟩
            replace y0 := y0.below hb
            replace y1 := y1.below hb
            replace k9 := k9.below hb
            replace p0 := p0.below hb
            replace p1 := p1.below hb
            replace p2 := p2.below hb
            replace p3 := p3.below hb
            replace p4 := p4.below hb
            replace p5 := p5.below hb
            replace p6 := p6.below hb
            replace p7 := p7.below hb
            replace r0 := r0.below hb
            replace r1 := r1.below hb
            replace r2 := r2.below hb
            replace H0 := H0.trans (hb.mono H0.size)
            clear hb
            clear y0
            clear y1
            go_wp2_with fail
            refine hK.out _ _ ⟨r0.eq, r1.eq, r2.eq, p0.eq, p1.eq, p2.eq, p3.eq, p4.eq, p5.eq, p6.eq, p7.eq⟩ (fun hHeld => ?_)
            clear hK K
            (try simp only [getElem_toArray, getElem_cons_succ, getElem_cons_zero, Act.put, setIfInBounds_toArray, set_cons_zero, set_cons_succ])
            refine rd1 9 (by kernel_rfl) rfl (fun K hK => ?_)
            go_simp
            go_at_call 31
            refine (toq_v k5 (by decide)).mono ?_
            rintro e w902 ⟨s6, A6, n6, c6, D6, m6, e6, rfl, k6, hb⟩
            replace k9 := k9.below hb
            replace p0 := p0.below hb
            replace p1 := p1.below hb
            replace p2 := p2.below hb
            replace p3 := p3.below hb
            replace p4 := p4.below hb
            replace p5 := p5.below hb
            replace p6 := p6.below hb
            replace p7 := p7.below hb
            replace r0 := r0.below hb
            replace r1 := r1.below hb
            replace r2 := r2.below hb
            replace k5 := k5.below hb
            replace H0 := H0.trans (hb.mono H0.size)
            clear hb
            clear k5
            go_wp2_with fail
            refine hK.out _ _ ⟨r0.eq, r1.eq, r2.eq, p0.eq, p1.eq, p2.eq, p3.eq, p4.eq, p5.eq, p6.eq, p7.eq⟩ (fun hHeld => ?_)
            clear hK K
            (try simp only [getElem_toArray, getElem_cons_succ, getElem_cons_zero, Act.put, setIfInBounds_toArray, set_cons_zero, set_cons_succ])
            refine rd1 10 (by kernel_rfl) rfl (fun K hK => ?_)
            go_simp
            go_at_call 40
            refine (sameq_d k9 k6 (decide_eq_true rfl)).mono ?_
            rintro e w903 ⟨rfl, hb⟩
            replace k9 := k9.below hb
            replace p0 := p0.below hb
            replace p1 := p1.below hb
            replace p2 := p2.below hb
            replace p3 := p3.below hb
            replace p4 := p4.below hb
            replace p5 := p5.below hb
            replace p6 := p6.below hb
            replace p7 := p7.below hb
            replace r0 := r0.below hb
            replace r1 := r1.below hb
            replace r2 := r2.below hb
            replace k6 := k6.below hb
            replace H0 := H0.trans (hb.mono H0.size)
            clear hb
            clear k9
            clear k6
            go_wp2_with fail
            refine hK.out _ _ ⟨r0.eq, r1.eq, r2.eq, p0.eq, p1.eq, p2.eq, p3.eq, p4.eq, p5.eq, p6.eq, p7.eq⟩ (fun hHeld => ?_)
            clear hK K
            (try simp only [getElem_toArray, getElem_cons_succ, getElem_cons_zero, Act.put, setIfInBounds_toArray, set_cons_zero, set_cons_succ])
            refine tk 11 ?_ rfl (by kernel_rfl) (fun _ _ _ h => h) (by rfl) (by assumption) ?_ ?_
            rotate_left
            · (intro w hSw; (try dsimp only at hSw); go_simp; (try with_reducible rfl))
            (try simp only [getElem_toArray, getElem_cons_succ, getElem_cons_zero, Act.put, setIfInBounds_toArray, set_cons_zero, set_cons_succ])
            refine wpAnyH_done (by kernel_rfl) ?_ _
            refine NoPanic.normal ?_
            go_wp2_with fail
            go_roundw
            case rel => exact ⟨i + 1, by omega, by go_num, H0⟩
            case measure => simp [intOf]; omega
          · go_wp2_with fail
            refine (known6_any _).mono ?_
            rintro e w99 ⟨rfl, hb⟩
            go_wp2_with fail
            go_ret
            exact ⟨rfl, HH.out.trans ((H0.trans (hb.mono H0.size)).mono HH.out.size)⟩
  · have er : (((r : Nat) : Int) == 0) = false := by rw [beq_eq_false_iff_ne]; omega
    clear hr hr0
    have hl8 := hl0
    rcases both_or (spansOf g0 t0) with hb | ⟨i0_, s0_, hmi, hno, hbt⟩
    · have HB0 := Lib.hid (bnd_of hb)
      clear hb
      go_wp2_with fail
      refine (writeall_v k0 (by have := set_len g0 t0; omega) (by decide)).mono ?_
      rintro e w6 ⟨y_, rfl, s_, hb⟩
      replace k0 := k0.below hb
      replace p0 := p0.below hb
      replace b5 := b5.below hb
      replace H0 := H0.trans (hb.mono H0.size)
      clear hb
      have kx : SetV w6 5 y_ g0 t0 := ⟨s_, HA0.out⟩
      clear s_
      obtain ⟨cb50, cb51, cb52⟩ := b5.cells3
      go_wp2_with fail
      clear cb50 cb51 cb52
      refine (toq_v p0 (by decide)).mono ?_
      rintro e w7 ⟨s4, A4, n4, c4, D4, m4, e4, rfl, p4, hb⟩
      replace k0 := k0.below hb
      replace p0 := p0.below hb
      replace kx := kx.below hb
      replace b5 := b5.below hb
      replace H0 := H0.trans (hb.mono H0.size)
      clear hb
      go_wp2_with fail
      obtain ⟨kc, hkc⟩ : ∃ k, clsL (spansOf g0 t0) q0 = k := ⟨_, rfl⟩
      have HKC := Lib.hid hkc
      clear hkc
      have ekc : ((kc : Int) != kc) = false := by simp
      have ekd : ((kc : Int) == kc) = true := by simp
      refine (pclass_x HKC.out kx p4.rq (by omega) (by decide) (by decide)).mono ?_
      rintro e w8 ⟨rfl, hb⟩
      replace k0 := k0.below hb
      replace p0 := p0.below hb
      replace kx := kx.below hb
      replace p4 := p4.below hb
      replace b5 := b5.below hb
      replace H0 := H0.trans (hb.mono H0.size)
      clear hb
      go_wp2_with fail
      clear p4
      refine (samples_v kx.1 (set_ok kx.2) (set_sep kx.2) (by have := set_len g0 t0; omega) (by decide)).mono ?_
      rintro e w9 ⟨y2_, rfl, kn, hb⟩
      replace k0 := k0.below hb
      replace p0 := p0.below hb
      replace kx := kx.below hb
      replace b5 := b5.below hb
      replace H0 := H0.trans (hb.mono H0.size)
      clear hb
      obtain ⟨A8, c8, rfl, hx8, hy8⟩ := kn.form
      rw [List.length_map] at kn hx8 ⊢
      clear hx8 hy8
      go_wp2_with fail
      refine (length_v kx HB0.out 4 (by omega) (by decide) (by decide)).mono ?_
      rintro e w10 ⟨s5, A5, n5, c5, D5, m5, e5, rfl, k5, hb⟩
      replace k0 := k0.below hb
      replace p0 := p0.below hb
      replace kx := kx.below hb
      replace kn := kn.below hb
      replace b5 := b5.below hb
      replace H0 := H0.trans (hb.mono H0.size)
      clear hb
      clear kx
      replace k5 : NQ w10 s5 (.slice A5 n5 c5) (.slice D5 m5 e5) _ 51 := k5
      have lb5_11 := b5.lt
      obtain ⟨W11, hW, b14, hbW, hszW11⟩ := boxes1 w10 #[.bool s5, .slice A5 n5 c5, .slice D5 m5 e5] 28
      skip
      skip
      replace k0 := k0.below hbW
      replace p0 := p0.below hbW
      replace kn := kn.below hbW
      replace k5 := k5.below hbW
      replace b5 := b5.below hbW
      replace H0 := H0.trans (hbW.mono H0.size)
      clear hbW
      go_wp2_with fail
      clear hW
      clear hszW11
      refine (rlen_yes k0 (Bnd.both HB0.out) (by have := Bnd.len HB0.out; omega) (by decide)).mono ?_
      rintro e w12 ⟨s6, A6, n6, c6, D6, m6, e6, rfl, k6, hb⟩
      replace k0 := k0.below hb
      replace p0 := p0.below hb
      replace kn := kn.below hb
      replace k5 := k5.below hb
      replace b5 := b5.below hb
      replace b14 := b14.below hb
      replace H0 := H0.trans (hb.mono H0.size)
      clear hb
      have lb5_13 := b5.lt
      have lb14_13 := b14.lt
      obtain ⟨W13, hW, b16, hbW, hszW13⟩ := boxes1 w12 #[.bool s6, .slice A6 n6 c6, .slice D6 m6 e6] 37
      skip
      skip
      replace k0 := k0.below hbW
      replace p0 := p0.below hbW
      replace kn := kn.below hbW
      replace k5 := k5.below hbW
      replace k6 := k6.below hbW
      replace b5 := b5.below hbW
      replace b14 := b14.below hbW
      replace H0 := H0.trans (hbW.mono H0.size)
      clear hbW
      go_wp2_with fail
      clear hW
      clear hszW13
      obtain ⟨A7, c7, ea7, hx7, hy7⟩ := SrS.form k0
      subst ea7
      clear hx7 hy7
      have hD := drawn_below W13
      replace k0 := k0.below hD
      replace p0 := p0.below hD
      replace kn := kn.below hD
      replace k5 := k5.below hD
      replace k6 := k6.below hD
      replace b5 := b5.below hD
      replace b14 := b14.below hD
      replace b16 := b16.below hD
      replace H0 := H0.trans (hD.mono H0.size)
      clear hD
      refine wp_region_noPanic ?_
      refine wp_region_held_drew (S := (fun V => V.cell? ⟨w3.heap.size, 0, none⟩ = some (.bool s3) ∧ V.cell? ⟨w3.heap.size, 1, none⟩ = some (.slice A3 n3 c3) ∧ V.cell? ⟨w3.heap.size, 2, none⟩ = some (.slice D3 m3 e3) ∧ V.cell? ⟨w10.heap.size, 0, none⟩ = some (.bool s5) ∧ V.cell? ⟨w10.heap.size, 1, none⟩ = some (.slice A5 n5 c5) ∧ V.cell? ⟨w10.heap.size, 2, none⟩ = some (.slice D5 m5 e5) ∧ V.cell? ⟨w12.heap.size, 0, none⟩ = some (.bool s6) ∧ V.cell? ⟨w12.heap.size, 1, none⟩ = some (.slice A6 n6 c6) ∧ V.cell? ⟨w12.heap.size, 2, none⟩ = some (.slice D6 m6 e6))) (by kernel_rfl) (b5.and3 (b14.and3 (b16.all3))) (fun hHeld => ?_)
      generalize W13.drew = v14 at H0 hHeld k0 p0 kn k5 k6 b5 b14 b16 ⊢
      refine todo [0, 1, 2, 3, 4, 5, 6, 7, 8, 9] ?_
      iterate 10
        refine tkT ?_ rfl (by kernel_rfl) (fun _ _ _ h => h) (by rfl) (by assumption) ?_ ?_
        rotate_left
        · (intro w hSw; (try dsimp only at hSw); go_simp; (try with_reducible rfl))
        (try simp only [getElem_toArray, getElem_cons_succ, getElem_cons_zero, Act.put, setIfInBounds_toArray, set_cons_zero, set_cons_succ])
      refine tdone ?_
      refine rd1 10 (by kernel_rfl) rfl (fun K hK => ?_)
      go_simp
      go_at_call 19
      refine (rclass_x HKC.out k0 p0 (by decide)).mono ?_
      rintro e w15 ⟨rfl, hb⟩
      replace k0 := k0.below hb
      replace p0 := p0.below hb
      replace kn := kn.below hb
      replace k5 := k5.below hb
      replace k6 := k6.below hb
      replace b5 := b5.below hb
      replace b14 := b14.below hb
      replace b16 := b16.below hb
      replace H0 := H0.trans (hb.mono H0.size)
      clear hb
      go_wp2_with fail
      refine hK.out _ _ (b5.and3 (b14.and3 (b16.all3))) (fun hHeld => ?_)
      clear hK K
      (try simp only [getElem_toArray, getElem_cons_succ, getElem_cons_zero, Act.put, setIfInBounds_toArray, set_cons_zero, set_cons_succ])
      refine todo [11, 12, 13, 14, 16, 15, 17, 18, 19, 20, 21, 22, 23, 24, 25, 26, 27, 28, 29, 30] ?_
      iterate 20
        refine tkT ?_ rfl (by kernel_rfl) (fun _ _ _ h => h) (by rfl) (by assumption) ?_ ?_
        rotate_left
        · (intro w hSw; (try dsimp only at hSw); go_simp; (try with_reducible rfl))
        (try simp only [getElem_toArray, getElem_cons_succ, getElem_cons_zero, Act.put, setIfInBounds_toArray, set_cons_zero, set_cons_succ])
      refine tdone ?_
      refine rd1 31 (by kernel_rfl) rfl (fun K hK => ?_)
      go_simp
      go_at_call 31
      refine (toq_v k6 (by decide)).mono ?_
      rintro e w16 ⟨s7, A7, n7, c7, D7, m7, e7, rfl, k7, hb⟩
      replace k0 := k0.below hb
      replace p0 := p0.below hb
      replace kn := kn.below hb
      replace k5 := k5.below hb
      replace k6 := k6.below hb
      replace b5 := b5.below hb
      replace b14 := b14.below hb
      replace b16 := b16.below hb
      replace H0 := H0.trans (hb.mono H0.size)
      clear hb
      clear k6
      go_wp2_with fail
      refine hK.out _ _ (b5.and3 (b14.and3 (b16.all3))) (fun hHeld => ?_)
      clear hK K
      (try simp only [getElem_toArray, getElem_cons_succ, getElem_cons_zero, Act.put, setIfInBounds_toArray, set_cons_zero, set_cons_succ])
      refine rd1 32 (by kernel_rfl) rfl (fun K hK => ?_)
      go_simp
      go_at_call 40
      refine (sameq_d k5 k7 (decide_eq_true rfl)).mono ?_
      rintro e w17 ⟨rfl, hb⟩
      replace k0 := k0.below hb
      replace p0 := p0.below hb
      replace kn := kn.below hb
      replace k5 := k5.below hb
      replace k7 := k7.below hb
      replace b5 := b5.below hb
      replace b14 := b14.below hb
      replace b16 := b16.below hb
      replace H0 := H0.trans (hb.mono H0.size)
      clear hb
      clear k5
      clear k7
      go_wp2_with fail
      refine hK.out _ _ (b5.and3 (b14.and3 (b16.all3))) (fun hHeld => ?_)
      clear hK K
      (try simp only [getElem_toArray, getElem_cons_succ, getElem_cons_zero, Act.put, setIfInBounds_toArray, set_cons_zero, set_cons_succ])
      refine todo [33, 34, 35, 36, 37, 38, 39] ?_
      iterate 7
        refine tkT ?_ rfl (by kernel_rfl) (fun _ _ _ h => h) (by rfl) (by assumption) ?_ ?_
        rotate_left
        · (intro w hSw; (try dsimp only at hSw); go_simp; (try with_reducible rfl))
        (try simp only [getElem_toArray, getElem_cons_succ, getElem_cons_zero, Act.put, setIfInBounds_toArray, set_cons_zero, set_cons_succ])
      refine tdone ?_
      refine todo [40, 41, 42, 43] ?_
      iterate 4
        refine tkS rfl (by kernel_rfl) (fun _ _ _ h => h) (by rfl) (by assumption) ?_
        (try simp only [getElem_toArray, getElem_cons_succ, getElem_cons_zero, Act.put, setIfInBounds_toArray, set_cons_zero, set_cons_succ])
      refine tdone ?_
      refine todo [44, 45] ?_
      iterate 2
        refine tkT ?_ rfl (by kernel_rfl) (fun _ _ _ h => h) (by rfl) (by assumption) ?_ ?_
        rotate_left
        · (intro w hSw; (try dsimp only at hSw); go_simp; (try with_reducible rfl))
        (try simp only [getElem_toArray, getElem_cons_succ, getElem_cons_zero, Act.put, setIfInBounds_toArray, set_cons_zero, set_cons_succ])
      refine tdone ?_
      refine wpAnyH_done (by kernel_rfl) ?_ _
      refine NoPanic.normal ?_
      clear b14
      clear b16
      clear b5
      clear p0
      go_wp2_with fail
      have hl9 : (spansOf g0 t0).length ≤ 9 := by have := set_len g0 t0; omega
      generalize spansOf g0 t0 = l at k0 kn hl9 ⊢
      have HN := Lib.hid kn
      have HK := Lib.hid k0
      have HH := Lib.hid H0
      clear kn k0 H0 HKC
      obtain ⟨wy, hwy⟩ : ∃ W, W = w17 := ⟨_, rfl⟩
      subst hwy
      go_loopw [18, 120] (fun _ t120 wr => ∃ i : Nat, i ≤ l.length ∧ t120 = .int .i64 (i : Int) ∧ Below wy.heap.size wy wr) (fun _ t120 _ => l.length - (intOf t120).toNat)
      case atStart => exact ⟨0, Nat.zero_le _, rfl, Below.refl _ _⟩
      case round =>
        obtain ⟨i, hi, rfl, H0⟩ := hrel
        by_cases hlt : i < l.length
        · obtain ⟨sp, hsp⟩ : ∃ s, l[i]? = some s := ⟨_, List.getElem?_eq_getElem hlt⟩
          have hsm : (l.map samS)[i]? = some (samS sp) := by rw [List.getElem?_map, hsp]; rfl
          obtain ⟨g, o, s0, A0, n0, c0, D0, m0, e0, s1, A1, n1, c1, D1, m1, e1, f0, h0, rfl, cc0, cc1, cc2, cc3, cc4, cc5, cc6, cc7, y0, y1⟩ := (SrS.below HK.out H0).elem hsp
          obtain ⟨g', o', s4, A4, n4, c4, D4, m4, e4, rfl, cd0, cd1, cd2, k9⟩ := (HN.out.below H0).elem hsm
          have p0 : CellF wr _ _ := cc0
          have p1 : CellF wr _ _ := cc1
          have p2 : CellF wr _ _ := cc2
          have p3 : CellF wr _ _ := cc3
          have p4 : CellF wr _ _ := cc4
          have p5 : CellF wr _ _ := cc5
          have p6 : CellF wr _ _ := cc6
          have p7 : CellF wr _ _ := cc7
          have r0 : CellF wr _ _ := cd0
          have r1 : CellF wr _ _ := cd1
          have r2 : CellF wr _ _ := cd2
          clear hsp hsm cc0 cc1 cc2 cc3 cc4 cc5 cc6 cc7 cd0 cd1 cd2
          go_wp2_with fail
          have hD := drawn_below wr
          replace y0 := y0.below hD
          replace y1 := y1.below hD
          replace k9 := k9.below hD
          replace p0 := p0.below hD
          replace p1 := p1.below hD
          replace p2 := p2.below hD
          replace p3 := p3.below hD
          replace p4 := p4.below hD
          replace p5 := p5.below hD
          replace p6 := p6.below hD
          replace p7 := p7.below hD
          replace r0 := r0.below hD
          replace r1 := r1.below hD
          replace r2 := r2.below hD
          replace H0 := H0.trans (hD.mono H0.size)
          clear hD
          refine wp_region_noPanic ?_
          refine wp_region_held_drew (S := (fun V => V.cell? ⟨g', o' + i * 3, none⟩ = some (.bool s4) ∧ V.cell? ⟨g', o' + i * 3 + 1, none⟩ = some (.slice A4 n4 c4) ∧ V.cell? ⟨g', o' + i * 3 + 2, none⟩ = some (.slice D4 m4 e4) ∧ V.cell? ⟨g, o + i * 8, none⟩ = some (.bool s0) ∧ V.cell? ⟨g, o + i * 8 + 1, none⟩ = some (.slice A0 n0 c0) ∧ V.cell? ⟨g, o + i * 8 + 2, none⟩ = some (.slice D0 m0 e0) ∧ V.cell? ⟨g, o + i * 8 + 3, none⟩ = some (.bool s1) ∧ V.cell? ⟨g, o + i * 8 + 4, none⟩ = some (.slice A1 n1 c1) ∧ V.cell? ⟨g, o + i * 8 + 5, none⟩ = some (.slice D1 m1 e1) ∧ V.cell? ⟨g, o + i * 8 + 6, none⟩ = some (.bool f0) ∧ V.cell? ⟨g, o + i * 8 + 7, none⟩ = some (.bool h0))) (by kernel_rfl) ⟨r0.eq, r1.eq, r2.eq, p0.eq, p1.eq, p2.eq, p3.eq, p4.eq, p5.eq, p6.eq, p7.eq⟩ (fun hHeld => ?_)
          generalize wr.drew = v900 at H0 hHeld y0 y1 k9 p0 p1 p2 p3 p4 p5 p6 p7 r0 r1 r2 ⊢
          refine todo [0, 1, 4, 5, 2, 6, 3, 7] ?_
          iterate 8
            refine tkT ?_ rfl (by kernel_rfl) (fun _ _ _ h => h) (by rfl) (by assumption) ?_ ?_
            rotate_left
            · (intro w hSw; (try dsimp only at hSw); go_simp; (try with_reducible rfl))
            (try simp only [getElem_toArray, getElem_cons_succ, getElem_cons_zero, Act.put, setIfInBounds_toArray, set_cons_zero, set_cons_succ])
          refine tdone ?_
          refine rd1 8 (by kernel_rfl) rfl (fun K hK => ?_)
          go_simp
          go_at_call 41
          refine (rsample_v y0 y1 (by decide)).mono ?_
          rintro e w901 ⟨s5, A5, n5, c5, D5, m5, e5, rfl, k5, hb⟩
          replace y0 := y0.below hb
          replace y1 := y1.below hb
          replace k9 := k9.below hb
          replace p0 := p0.below hb
          replace p1 := p1.below hb
          replace p2 := p2.below hb
          replace p3 := p3.below hb
          replace p4 := p4.below hb
          replace p5 := p5.below hb
          replace p6 := p6.below hb
          replace p7 := p7.below hb
          replace r0 := r0.below hb
          replace r1 := r1.below hb
          replace r2 := r2.below hb
          replace H0 := H0.trans (hb.mono H0.size)
          clear hb
          clear y0
          clear y1
          go_wp2_with fail
          refine hK.out _ _ ⟨r0.eq, r1.eq, r2.eq, p0.eq, p1.eq, p2.eq, p3.eq, p4.eq, p5.eq, p6.eq, p7.eq⟩ (fun hHeld => ?_)
          clear hK K
          (try simp only [getElem_toArray, getElem_cons_succ, getElem_cons_zero, Act.put, setIfInBounds_toArray, set_cons_zero, set_cons_succ])
          refine rd1 9 (by kernel_rfl) rfl (fun K hK => ?_)
          go_simp
          go_at_call 31
          refine (toq_v k5 (by decide)).mono ?_
          rintro e w902 ⟨s6, A6, n6, c6, D6, m6, e6, rfl, k6, hb⟩
          replace k9 := k9.below hb
          replace p0 := p0.below hb
          replace p1 := p1.below hb
          replace p2 := p2.below hb
          replace p3 := p3.below hb
          replace p4 := p4.below hb
          replace p5 := p5.below hb
          replace p6 := p6.below hb
          replace p7 := p7.below hb
          replace r0 := r0.below hb
          replace r1 := r1.below hb
          replace r2 := r2.below hb
          replace k5 := k5.below hb
          replace H0 := H0.trans (hb.mono H0.size)
          clear hb
          clear k5
          go_wp2_with fail
          refine hK.out _ _ ⟨r0.eq, r1.eq, r2.eq, p0.eq, p1.eq, p2.eq, p3.eq, p4.eq, p5.eq, p6.eq, p7.eq⟩ (fun hHeld => ?_)
          clear hK K
          (try simp only [getElem_toArray, getElem_cons_succ, getElem_cons_zero, Act.put, setIfInBounds_toArray, set_cons_zero, set_cons_succ])
          refine rd1 10 (by kernel_rfl) rfl (fun K hK => ?_)
          go_simp
          go_at_call 40
          refine (sameq_d k9 k6 (decide_eq_true rfl)).mono ?_
          rintro e w903 ⟨rfl, hb⟩
          replace k9 := k9.below hb
          replace p0 := p0.below hb
          replace p1 := p1.below hb
          replace p2 := p2.below hb
          replace p3 := p3.below hb
          replace p4 := p4.below hb
          replace p5 := p5.below hb
          replace p6 := p6.below hb
          replace p7 := p7.below hb
          replace r0 := r0.below hb
          replace r1 := r1.below hb
          replace r2 := r2.below hb
          replace k6 := k6.below hb
          replace H0 := H0.trans (hb.mono H0.size)
          clear hb
          clear k9
          clear k6
          go_wp2_with fail
          refine hK.out _ _ ⟨r0.eq, r1.eq, r2.eq, p0.eq, p1.eq, p2.eq, p3.eq, p4.eq, p5.eq, p6.eq, p7.eq⟩ (fun hHeld => ?_)
          clear hK K
          (try simp only [getElem_toArray, getElem_cons_succ, getElem_cons_zero, Act.put, setIfInBounds_toArray, set_cons_zero, set_cons_succ])
          refine tk 11 ?_ rfl (by kernel_rfl) (fun _ _ _ h => h) (by rfl) (by assumption) ?_ ?_
          rotate_left
          · (intro w hSw; (try dsimp only at hSw); go_simp; (try with_reducible rfl))
          (try simp only [getElem_toArray, getElem_cons_succ, getElem_cons_zero, Act.put, setIfInBounds_toArray, set_cons_zero, set_cons_succ])
          refine wpAnyH_done (by kernel_rfl) ?_ _
          refine NoPanic.normal ?_
          go_wp2_with fail
          go_roundw
          case rel => exact ⟨i + 1, by omega, by go_num, H0⟩
          case measure => simp [intOf]; omega
        · go_wp2_with fail
          refine (known6_any _).mono ?_
          rintro e w99 ⟨rfl, hb⟩
          go_wp2_with fail
          go_ret
          exact ⟨rfl, HH.out.trans ((H0.trans (hb.mono H0.size)).mono HH.out.size)⟩
    · go_wp2_with fail
      refine (writeall_v k0 (by have := set_len g0 t0; omega) (by decide)).mono ?_
      rintro e w6 ⟨y_, rfl, s_, hb⟩
      replace k0 := k0.below hb
      replace p0 := p0.below hb
      replace b5 := b5.below hb
      replace H0 := H0.trans (hb.mono H0.size)
      clear hb
      have kx : SetV w6 5 y_ g0 t0 := ⟨s_, HA0.out⟩
      clear s_
      obtain ⟨cb50, cb51, cb52⟩ := b5.cells3
      go_wp2_with fail
      clear cb50 cb51 cb52
      refine (toq_v p0 (by decide)).mono ?_
      rintro e w7 ⟨s4, A4, n4, c4, D4, m4, e4, rfl, p4, hb⟩
      replace k0 := k0.below hb
      replace p0 := p0.below hb
      replace kx := kx.below hb
      replace b5 := b5.below hb
      replace H0 := H0.trans (hb.mono H0.size)
      clear hb
      go_wp2_with fail
      obtain ⟨kc, hkc⟩ : ∃ k, clsL (spansOf g0 t0) q0 = k := ⟨_, rfl⟩
      have HKC := Lib.hid hkc
      clear hkc
      have ekc : ((kc : Int) != kc) = false := by simp
      have ekd : ((kc : Int) == kc) = true := by simp
      refine (pclass_x HKC.out kx p4.rq (by omega) (by decide) (by decide)).mono ?_
      rintro e w8 ⟨rfl, hb⟩
      replace k0 := k0.below hb
      replace p0 := p0.below hb
      replace kx := kx.below hb
      replace p4 := p4.below hb
      replace b5 := b5.below hb
      replace H0 := H0.trans (hb.mono H0.size)
      clear hb
      go_wp2_with fail
      clear p4
      refine (samples_v kx.1 (set_ok kx.2) (set_sep kx.2) (by have := set_len g0 t0; omega) (by decide)).mono ?_
      rintro e w9 ⟨y2_, rfl, kn, hb⟩
      replace k0 := k0.below hb
      replace p0 := p0.below hb
      replace kx := kx.below hb
      replace b5 := b5.below hb
      replace H0 := H0.trans (hb.mono H0.size)
      clear hb
      obtain ⟨A8, c8, rfl, hx8, hy8⟩ := kn.form
      rw [List.length_map] at kn hx8 ⊢
      clear hx8 hy8
      go_wp2_with fail
      have hEw := HG.out _ H0
      refine (length_no kx.1 hbt hmi hno (set_ok kx.2) (set_sep kx.2) (by have := set_len g0 t0; omega) (by decide) hEw).mono ?_
      rintro e w10 ⟨rfl, hb⟩
      replace k0 := k0.below hb
      replace p0 := p0.below hb
      replace kx := kx.below hb
      replace kn := kn.below hb
      replace b5 := b5.below hb
      replace H0 := H0.trans (hb.mono H0.size)
      clear hb
      clear kx
      clear hEw
      go_wp2_with fail
      have lb5_11 := b5.lt
      obtain ⟨W11, hW, b14, hbW, hszW11⟩ := boxes1 w10 #[.bool false, .slice none 0 0, .slice none 0 0] 28
      rw [hW]
      clear hW
      replace k0 := k0.below hbW
      replace p0 := p0.below hbW
      replace kn := kn.below hbW
      replace b5 := b5.below hbW
      replace H0 := H0.trans (hbW.mono H0.size)
      clear hbW
      clear hszW11
      refine (rlen_no k0 hbt hmi hno (by have := (List.getElem?_eq_some_iff.1 hmi).1; have := set_len g0 t0; omega) (by decide)).mono ?_
      rintro e w12 ⟨rfl, hb⟩
      replace k0 := k0.below hb
      replace p0 := p0.below hb
      replace kn := kn.below hb
      replace b5 := b5.below hb
      replace b14 := b14.below hb
      replace H0 := H0.trans (hb.mono H0.size)
      clear hb
      go_wp2_with fail
      have lb5_13 := b5.lt
      have lb14_13 := b14.lt
      obtain ⟨W13, hW, b16, hbW, hszW13⟩ := boxes1 w12 #[.bool false, .slice none 0 0, .slice none 0 0] 37
      rw [hW]
      clear hW
      replace k0 := k0.below hbW
      replace p0 := p0.below hbW
      replace kn := kn.below hbW
      replace b5 := b5.below hbW
      replace b14 := b14.below hbW
      replace H0 := H0.trans (hbW.mono H0.size)
      clear hbW
      clear hszW13
      obtain ⟨A7, c7, ea7, hx7, hy7⟩ := SrS.form k0
      subst ea7
      clear hx7 hy7 hmi hno hbt
      have hD := drawn_below W13
      replace k0 := k0.below hD
      replace p0 := p0.below hD
      replace kn := kn.below hD
      replace b5 := b5.below hD
      replace b14 := b14.below hD
      replace b16 := b16.below hD
      replace H0 := H0.trans (hD.mono H0.size)
      clear hD
      refine wp_region_noPanic ?_
      refine wp_region_held_drew (S := (fun V => V.cell? ⟨w3.heap.size, 0, none⟩ = some (.bool s3) ∧ V.cell? ⟨w3.heap.size, 1, none⟩ = some (.slice A3 n3 c3) ∧ V.cell? ⟨w3.heap.size, 2, none⟩ = some (.slice D3 m3 e3) ∧ V.cell? ⟨1, 0, none⟩ = some (.iface 230 (.pointer (some a9_))))) (by kernel_rfl) ⟨b5.cell 0 _ rfl, b5.cell 1 _ rfl, b5.cell 2 _ rfl, HG.out _ H0⟩ (fun hHeld => ?_)
      generalize W13.drew = v14 at H0 hHeld k0 p0 kn b5 b14 b16 ⊢
      refine todo [0, 1, 2, 3, 4, 5, 6, 7, 8, 9] ?_
      iterate 10
        refine tkT ?_ rfl (by kernel_rfl) (fun _ _ _ h => h) (by rfl) (by assumption) ?_ ?_
        rotate_left
        · (intro w hSw; (try dsimp only at hSw); go_simp; (try with_reducible rfl))
        (try simp only [getElem_toArray, getElem_cons_succ, getElem_cons_zero, Act.put, setIfInBounds_toArray, set_cons_zero, set_cons_succ])
      refine tdone ?_
      refine rd1 10 (by kernel_rfl) rfl (fun K hK => ?_)
      go_simp
      go_at_call 19
      refine (rclass_x HKC.out k0 p0 (by decide)).mono ?_
      rintro e w15 ⟨rfl, hb⟩
      replace k0 := k0.below hb
      replace p0 := p0.below hb
      replace kn := kn.below hb
      replace b5 := b5.below hb
      replace b14 := b14.below hb
      replace b16 := b16.below hb
      replace H0 := H0.trans (hb.mono H0.size)
      clear hb
      go_wp2_with fail
      refine hK.out _ _ ⟨b5.cell 0 _ rfl, b5.cell 1 _ rfl, b5.cell 2 _ rfl, HG.out _ H0⟩ (fun hHeld => ?_)
      clear hK K
      (try simp only [getElem_toArray, getElem_cons_succ, getElem_cons_zero, Act.put, setIfInBounds_toArray, set_cons_zero, set_cons_succ])
      refine todo [11, 12, 13, 14, 16, 15, 17, 18, 19, 20, 21, 22, 23, 24, 25, 26, 27, 28] ?_
      iterate 18
        refine tkT ?_ rfl (by kernel_rfl) (fun _ _ _ h => h) (by rfl) (by assumption) ?_ ?_
        rotate_left
        · (intro w hSw; (try dsimp only at hSw); go_simp; (try with_reducible rfl))
        (try simp only [getElem_toArray, getElem_cons_succ, getElem_cons_zero, Act.put, setIfInBounds_toArray, set_cons_zero, set_cons_succ])
      refine tdone ?_
      refine todo [29, 30, 31, 32, 33] ?_
      iterate 5
        refine tkS rfl (by kernel_rfl) (fun _ _ _ h => h) (by rfl) (by assumption) ?_
        (try simp only [getElem_toArray, getElem_cons_succ, getElem_cons_zero, Act.put, setIfInBounds_toArray, set_cons_zero, set_cons_succ])
      refine tdone ?_
      refine todo [34, 35, 36, 37, 38, 39, 40, 41] ?_
      iterate 8
        refine tkT ?_ rfl (by kernel_rfl) (fun _ _ _ h => h) (by rfl) (by assumption) ?_ ?_
        rotate_left
        · (intro w hSw; (try dsimp only at hSw); go_simp; (try with_reducible rfl))
        (try simp only [getElem_toArray, getElem_cons_succ, getElem_cons_zero, Act.put, setIfInBounds_toArray, set_cons_zero, set_cons_succ])
      refine tdone ?_
      refine rd1 42 (by kernel_rfl) rfl (fun K hK => ?_)
      go_simp
      go_at_call 18
      refine ((is_same a9_ _).mono (fun _ _ h => Is_below h)).mono ?_
      rintro e w16 ⟨rfl, hb⟩
      replace k0 := k0.below hb
      replace p0 := p0.below hb
      replace kn := kn.below hb
      replace b5 := b5.below hb
      replace b14 := b14.below hb
      replace b16 := b16.below hb
      replace H0 := H0.trans (hb.mono H0.size)
      clear hb
      go_wp2_with fail
      refine hK.out _ _ ⟨b5.cell 0 _ rfl, b5.cell 1 _ rfl, b5.cell 2 _ rfl, HG.out _ H0⟩ (fun hHeld => ?_)
      clear hK K
      (try simp only [getElem_toArray, getElem_cons_succ, getElem_cons_zero, Act.put, setIfInBounds_toArray, set_cons_zero, set_cons_succ])
      refine todo [43, 44, 45] ?_
      iterate 3
        refine tkT ?_ rfl (by kernel_rfl) (fun _ _ _ h => h) (by rfl) (by assumption) ?_ ?_
        rotate_left
        · (intro w hSw; (try dsimp only at hSw); go_simp; (try with_reducible rfl))
        (try simp only [getElem_toArray, getElem_cons_succ, getElem_cons_zero, Act.put, setIfInBounds_toArray, set_cons_zero, set_cons_succ])
      refine tdone ?_
      refine wpAnyH_done (by kernel_rfl) ?_ _
      refine NoPanic.normal ?_
      clear b14
      clear b16
      clear b5
      clear p0
      go_wp2_with fail
      have hl9 : (spansOf g0 t0).length ≤ 9 := by have := set_len g0 t0; omega
      generalize spansOf g0 t0 = l at k0 kn hl9 ⊢
      have HN := Lib.hid kn
      have HK := Lib.hid k0
      have HH := Lib.hid H0
      clear kn k0 H0 HKC
      obtain ⟨wy, hwy⟩ : ∃ W, W = w16 := ⟨_, rfl⟩
      subst hwy
      go_loopw [18, 120] (fun _ t120 wr => ∃ i : Nat, i ≤ l.length ∧ t120 = .int .i64 (i : Int) ∧ Below wy.heap.size wy wr) (fun _ t120 _ => l.length - (intOf t120).toNat)
      case atStart => exact ⟨0, Nat.zero_le _, rfl, Below.refl _ _⟩
      case round =>
        obtain ⟨i, hi, rfl, H0⟩ := hrel
        by_cases hlt : i < l.length
        · obtain ⟨sp, hsp⟩ : ∃ s, l[i]? = some s := ⟨_, List.getElem?_eq_getElem hlt⟩
          have hsm : (l.map samS)[i]? = some (samS sp) := by rw [List.getElem?_map, hsp]; rfl
          obtain ⟨g, o, s0, A0, n0, c0, D0, m0, e0, s1, A1, n1, c1, D1, m1, e1, f0, h0, rfl, cc0, cc1, cc2, cc3, cc4, cc5, cc6, cc7, y0, y1⟩ := (SrS.below HK.out H0).elem hsp
          obtain ⟨g', o', s4, A4, n4, c4, D4, m4, e4, rfl, cd0, cd1, cd2, k9⟩ := (HN.out.below H0).elem hsm
          have p0 : CellF wr _ _ := cc0
          have p1 : CellF wr _ _ := cc1
          have p2 : CellF wr _ _ := cc2
          have p3 : CellF wr _ _ := cc3
          have p4 : CellF wr _ _ := cc4
          have p5 : CellF wr _ _ := cc5
          have p6 : CellF wr _ _ := cc6
          have p7 : CellF wr _ _ := cc7
          have r0 : CellF wr _ _ := cd0
          have r1 : CellF wr _ _ := cd1
          have r2 : CellF wr _ _ := cd2
          clear hsp hsm cc0 cc1 cc2 cc3 cc4 cc5 cc6 cc7 cd0 cd1 cd2
          go_wp2_with fail
          have hD := drawn_below wr
          replace y0 := y0.below hD
          replace y1 := y1.below hD
          replace k9 := k9.below hD
          replace p0 := p0.below hD
          replace p1 := p1.below hD
          replace p2 := p2.below hD
          replace p3 := p3.below hD
          replace p4 := p4.below hD
          replace p5 := p5.below hD
          replace p6 := p6.below hD
          replace p7 := p7.below hD
          replace r0 := r0.below hD
          replace r1 := r1.below hD
          replace r2 := r2.below hD
          replace H0 := H0.trans (hD.mono H0.size)
          clear hD
          refine wp_region_noPanic ?_
          refine wp_region_held_drew (S := (fun V => V.cell? ⟨g', o' + i * 3, none⟩ = some (.bool s4) ∧ V.cell? ⟨g', o' + i * 3 + 1, none⟩ = some (.slice A4 n4 c4) ∧ V.cell? ⟨g', o' + i * 3 + 2, none⟩ = some (.slice D4 m4 e4) ∧ V.cell? ⟨g, o + i * 8, none⟩ = some (.bool s0) ∧ V.cell? ⟨g, o + i * 8 + 1, none⟩ = some (.slice A0 n0 c0) ∧ V.cell? ⟨g, o + i * 8 + 2, none⟩ = some (.slice D0 m0 e0) ∧ V.cell? ⟨g, o + i * 8 + 3, none⟩ = some (.bool s1) ∧ V.cell? ⟨g, o + i * 8 + 4, none⟩ = some (.slice A1 n1 c1) ∧ V.cell? ⟨g, o + i * 8 + 5, none⟩ = some (.slice D1 m1 e1) ∧ V.cell? ⟨g, o + i * 8 + 6, none⟩ = some (.bool f0) ∧ V.cell? ⟨g, o + i * 8 + 7, none⟩ = some (.bool h0))) (by kernel_rfl) ⟨r0.eq, r1.eq, r2.eq, p0.eq, p1.eq, p2.eq, p3.eq, p4.eq, p5.eq, p6.eq, p7.eq⟩ (fun hHeld => ?_)
          generalize wr.drew = v900 at H0 hHeld y0 y1 k9 p0 p1 p2 p3 p4 p5 p6 p7 r0 r1 r2 ⊢
          refine todo [0, 1, 4, 5, 2, 6, 3, 7] ?_
          iterate 8
            refine tkT ?_ rfl (by kernel_rfl) (fun _ _ _ h => h) (by rfl) (by assumption) ?_ ?_
            rotate_left
            · (intro w hSw; (try dsimp only at hSw); go_simp; (try with_reducible rfl))
            (try simp only [getElem_toArray, getElem_cons_succ, getElem_cons_zero, Act.put, setIfInBounds_toArray, set_cons_zero, set_cons_succ])
          refine tdone ?_
          refine rd1 8 (by kernel_rfl) rfl (fun K hK => ?_)
          go_simp
          go_at_call 41
          refine (rsample_v y0 y1 (by decide)).mono ?_
          rintro e w901 ⟨s5, A5, n5, c5, D5, m5, e5, rfl, k5, hb⟩
          replace y0 := y0.below hb
          replace y1 := y1.below hb
          replace k9 := k9.below hb
          replace p0 := p0.below hb
          replace p1 := p1.below hb
          replace p2 := p2.below hb
          replace p3 := p3.below hb
          replace p4 := p4.below hb
          replace p5 := p5.below hb
          replace p6 := p6.below hb
          replace p7 := p7.below hb
          replace r0 := r0.below hb
          replace r1 := r1.below hb
          replace r2 := r2.below hb
          replace H0 := H0.trans (hb.mono H0.size)
          clear hb
          clear y0
          clear y1
          go_wp2_with fail
          refine hK.out _ _ ⟨r0.eq, r1.eq, r2.eq, p0.eq, p1.eq, p2.eq, p3.eq, p4.eq, p5.eq, p6.eq, p7.eq⟩ (fun hHeld => ?_)
          clear hK K
          (try simp only [getElem_toArray, getElem_cons_succ, getElem_cons_zero, Act.put, setIfInBounds_toArray, set_cons_zero, set_cons_succ])
          refine rd1 9 (by kernel_rfl) rfl (fun K hK => ?_)
          go_simp
          go_at_call 31
          refine (toq_v k5 (by decide)).mono ?_
          rintro e w902 ⟨s6, A6, n6, c6, D6, m6, e6, rfl, k6, hb⟩
          replace k9 := k9.below hb
          replace p0 := p0.below hb
          replace p1 := p1.below hb
          replace p2 := p2.below hb
          replace p3 := p3.below hb
          replace p4 := p4.below hb
          replace p5 := p5.below hb
          replace p6 := p6.below hb
          replace p7 := p7.below hb
          replace r0 := r0.below hb
          replace r1 := r1.below hb
          replace r2 := r2.below hb
          replace k5 := k5.below hb
          replace H0 := H0.trans (hb.mono H0.size)
          clear hb
          clear k5
          go_wp2_with fail
          refine hK.out _ _ ⟨r0.eq, r1.eq, r2.eq, p0.eq, p1.eq, p2.eq, p3.eq, p4.eq, p5.eq, p6.eq, p7.eq⟩ (fun hHeld => ?_)
          clear hK K
          (try simp only [getElem_toArray, getElem_cons_succ, getElem_cons_zero, Act.put, setIfInBounds_toArray, set_cons_zero, set_cons_succ])
          refine rd1 10 (by kernel_rfl) rfl (fun K hK => ?_)
          go_simp
          go_at_call 40
          refine (sameq_d k9 k6 (decide_eq_true rfl)).mono ?_
          rintro e w903 ⟨rfl, hb⟩
          replace k9 := k9.below hb
          replace p0 := p0.below hb
          replace p1 := p1.below hb
          replace p2 := p2.below hb
          replace p3 := p3.below hb
          replace p4 := p4.below hb
          replace p5 := p5.below hb
          replace p6 := p6.below hb
          replace p7 := p7.below hb
          replace r0 := r0.below hb
          replace r1 := r1.below hb
          replace r2 := r2.below hb
          replace k6 := k6.below hb
          replace H0 := H0.trans (hb.mono H0.size)
          clear hb
          clear k9
          clear k6
          go_wp2_with fail
          refine hK.out _ _ ⟨r0.eq, r1.eq, r2.eq, p0.eq, p1.eq, p2.eq, p3.eq, p4.eq, p5.eq, p6.eq, p7.eq⟩ (fun hHeld => ?_)
          clear hK K
          (try simp only [getElem_toArray, getElem_cons_succ, getElem_cons_zero, Act.put, setIfInBounds_toArray, set_cons_zero, set_cons_succ])
          refine tk 11 ?_ rfl (by kernel_rfl) (fun _ _ _ h => h) (by rfl) (by assumption) ?_ ?_
          rotate_left
          · (intro w hSw; (try dsimp only at hSw); go_simp; (try with_reducible rfl))
          (try simp only [getElem_toArray, getElem_cons_succ, getElem_cons_zero, Act.put, setIfInBounds_toArray, set_cons_zero, set_cons_succ])
          refine wpAnyH_done (by kernel_rfl) ?_ _
          refine NoPanic.normal ?_
          go_wp2_with fail
          go_roundw
          case rel => exact ⟨i + 1, by omega, by go_num, H0⟩
          case measure => simp [intOf]; omega
        · go_wp2_with fail
          refine (known6_any _).mono ?_
          rintro e w99 ⟨rfl, hb⟩
          go_wp2_with fail
          go_ret
          exact ⟨rfl, HH.out.trans ((H0.trans (hb.mono H0.size)).mono HH.out.size)⟩
end
end Go.Proofs.YtpgkkkodniiilaaGreatDoor
