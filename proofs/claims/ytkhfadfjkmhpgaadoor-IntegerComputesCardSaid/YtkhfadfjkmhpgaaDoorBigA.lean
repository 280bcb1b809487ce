/-
  DivMod, Int, IntC, Int2, Int2b, Int3, Made, Made2, CmpI, RefI in one text.
-/
import Derived.Test.YtkhfadfjkmhpgaaDoorDivMod1
import Derived.Test.YtkhfadfjkmhpgaaDoorDivLong
import Derived.Test.YtkhfadfjkmhpgaaDoorVals
import Derived.Test.YtkhfadfjkmhpgaaDoorShift2
import Derived.Test.YtkhfadfjkmhpgaaDoorBox
import Derived.Test.YtkhfadfjkmhpgaaDoorKnown
import Derived.Test.YtkhfadfjkmhpgaaDoorForms
import Derived.Test.YtkhfadfjkmhpgaaDoorLess
namespace Go.Proofs.YtkhfadfjkmhpgaaDoor
open Go.RowKit

set_option maxRecDepth 100000 in
set_option maxHeartbeats 800000 in
theorem divmod_long {A A' : Option Addr} {n n' c c' x y m r : Nat} {ds es : List Nat} {w : World} (hx : Raw w (.slice A n c) ds) (hy : Raw w (.slice A' n' c') es) (hvx : Hid (val ds = x)) (hvy : Hid (val es = y)) (hm : Hid ((digs y).length = m + 2)) (hr : Hid ((digs x).length = m + 2 + r)) (h9 : m + 2 + r ≤ 1000000) :
    Calls Tryd.prog 28 #[.slice A n c, .slice A' n' c'] w fun e w' => ∃ B k d B' k' d', e = .returned (.tuple #[.slice B k d, .slice B' k' d', .bool true]) ∧ Num w' (.slice B k d) (x / y) ∧ Num w' (.slice B' k' d') (x % y) ∧ Below w.heap.size w w' := by
  have h0 : ((m : Int) + 2 == 0) = false := by rw [beq_eq_false_iff_ne]; omega
  have h1 : ((m : Int) + 2 == 1) = false := by rw [beq_eq_false_iff_ne]; omega
  go_enter Tryd.func28, Tryd.ntmps28
  go_wp2_with fail
  refine (trim_is hx hvx).mono ?_
  rintro e w' ⟨rfl, hX, rfl⟩
  go_wp2_with fail
  refine (trim_is hy hvy).mono ?_
  rintro e w' ⟨rfl, hY, rfl⟩
  rw [hm.out] at hY ⊢
  rw [hr.out] at hX ⊢
  go_wp2_with fail
  refine (divlong_any hX hY rfl rfl h9).mono ?_
  rintro e w1 ⟨B, k, d, B', k', d', rfl, hQ, hR, hb⟩
  go_wp2_with fail
  go_ret3
  exact ⟨_, _, _, _, _, _, rfl, hQ, hR, hb⟩

theorem divmod_is {A A' : Option Addr} {n n' c c' x y : Nat} {ds es : List Nat} {w : World} (hx : Raw w (.slice A n c) ds) (hy : Raw w (.slice A' n' c') es) (hvx : Hid (val ds = x)) (hvy : Hid (val es = y)) (hy0 : 0 < y) (h9 : (digs x).length ≤ 1000000) :
    Calls Tryd.prog 28 #[.slice A n c, .slice A' n' c'] w fun e w' => ∃ B k d B' k' d', e = .returned (.tuple #[.slice B k d, .slice B' k' d', .bool true]) ∧ Num w' (.slice B k d) (x / y) ∧ Num w' (.slice B' k' d') (x % y) ∧ Below w.heap.size w w' := by
  have hl := digs_length_pos hy0
  rcases Nat.lt_or_ge (digs x).length (digs y).length with hlt | hge
  · exact divmod_less hx hy hvx hvy hlt
  · rcases Nat.lt_or_ge (digs y).length 2 with h1 | h2
    · have hy1 : y < 4294967296 := by
        have := lt_of_digs_length (show (digs y).length ≤ 1 by omega)
        rwa [Bs_one] at this
      exact divmod_digit hx hy hvx hvy hy0 hy1 (by omega)
    · obtain ⟨m, hm⟩ : ∃ m, (digs y).length = m + 2 := ⟨(digs y).length - 2, by omega⟩
      obtain ⟨r, hr⟩ : ∃ r, (digs x).length = m + 2 + r := ⟨(digs x).length - (m + 2), by omega⟩
      exact divmod_long hx hy hvx hvy (Lib.hid hm) (Lib.hid hr) (by omega)

section
variable {A A' : Option Addr} {n n' c c' x y L L' : Nat} {w : World}
theorem divmod_v (hx : RV w (.slice A n c) x L) (hy : RV w (.slice A' n' c') y L') (hy0 : 0 < y) (hL : L ≤ 1000000) :
    Calls Tryd.prog 28 #[.slice A n c, .slice A' n' c'] w fun e w' => ∃ B k d B' k' d', e = .returned (.tuple #[.slice B k d, .slice B' k' d', .bool true]) ∧ NV w' (.slice B k d) (x / y) L ∧ NV w' (.slice B' k' d') (x % y) L' ∧ Below w.heap.size w w' := by
  have h1 := hx.lt
  have h2 := hy.lt
  have h3 := digs_length_le h1
  obtain ⟨ds, a1, a2, a3⟩ := hx
  obtain ⟨es, b1, b2, b3⟩ := hy
  refine (divmod_is a1 b1 (Lib.hid a2) (Lib.hid b2) hy0 (by omega)).mono ?_
  rintro e w' ⟨B, k, d, B', k', d', rfl, hQ, hR, hb⟩
  exact ⟨B, k, d, B', k', d', rfl, ⟨hQ, Nat.lt_of_le_of_lt (Nat.div_le_self _ _) h1⟩, ⟨hR, Nat.lt_trans (Nat.mod_lt _ hy0) h2⟩, hb⟩
theorem divmod0_v (hx : RV w (.slice A n c) x L) (hy : RV w (.slice A' n' c') 0 L') :
    Calls Tryd.prog 28 #[.slice A n c, .slice A' n' c'] w fun e w' => e = .returned (.tuple #[.slice none 0 0, .slice none 0 0, .bool false]) ∧ Below w.heap.size w w' := by
  obtain ⟨ds, a1, a2, a3⟩ := hx
  obtain ⟨es, b1, b2, b3⟩ := hy
  refine (divmod_zero a1 b1 (Lib.hid a2) (Lib.hid b2)).mono ?_
  rintro e w' ⟨rfl, rfl⟩
  exact ⟨rfl, Below.refl _ _⟩
end
end Go.Proofs.YtkhfadfjkmhpgaaDoor
namespace Go.Proofs.YtkhfadfjkmhpgaaDoor
open Go.RowKit

/-- The integer with a sign and an absolute value. -/
def sg (s : Bool) (x : Nat) : Int := if s then -(x : Int) else (x : Int)
theorem sg_true (x : Nat) : sg true x = -(x : Int) := rfl
theorem sg_false (x : Nat) : sg false x = (x : Int) := rfl
theorem sg_abs (s : Bool) (x : Nat) : (sg s x).natAbs = x := by cases s <;> simp [sg]
theorem sg_neg (s : Bool) (x : Nat) : decide (sg s x < 0) = (s && decide (0 < x)) := by
  cases s
  · simp [sg]
  · simp [sg]
theorem sg_self (z : Int) : sg (decide (z < 0)) z.natAbs = z := by
  unfold sg
  split <;> simp_all <;> omega

/-- s and v read as z, with at most L digits; neither need be in normal form. -/
def RI (w : World) (s : Bool) (v : Value) (z : Int) (L : Nat) : Prop := ∃ x, RV w v x L ∧ z = sg s x
/-- s and v read as z in normal form, with at most L digits. -/
def NI (w : World) (s : Bool) (v : Value) (z : Int) (L : Nat) : Prop := NV w v z.natAbs L ∧ s = decide (z < 0)
/-- The same in memory that was made after block b. -/
def GI (w : World) (b : Nat) (s : Bool) (v : Value) (z : Int) (L : Nat) : Prop := ∃ x, GV w b v x L ∧ z = sg s x

section
variable {w w' : World} {v : Value} {s : Bool} {z : Int} {L b : Nat}
theorem NI.ri (h : NI w s v z L) : RI w s v z L := ⟨z.natAbs, h.1.rv, by rw [h.2, sg_self]⟩
theorem NI.below (h : NI w s v z L) (hb : Below w.heap.size w w') : NI w' s v z L := ⟨h.1.below hb, h.2⟩
theorem RI.below (h : RI w s v z L) (hb : Below w.heap.size w w') : RI w' s v z L := by
  obtain ⟨x, h1, h2⟩ := h; exact ⟨x, h1.below hb, h2⟩
theorem RI.rv (h : RI w s v z L) : RV w v z.natAbs L := by
  obtain ⟨x, h1, h2⟩ := h; rw [h2, sg_abs]; exact h1
theorem RI.sg (h : RI w s v z L) : z = sg s z.natAbs := by
  obtain ⟨x, h1, h2⟩ := h; rw [h2, sg_abs]
theorem GI.keep (h : GI w b s v z L) (hb : Below w.heap.size w w') : GI w' b s v z L := by
  obtain ⟨x, h1, h2⟩ := h; exact ⟨x, h1.keep hb, h2⟩
theorem GI.other (h : GI w b s v z L) (hb : w.grownBy w' (some b)) : GI w' b s v z L := by
  obtain ⟨x, h1, h2⟩ := h; exact ⟨x, h1.other hb, h2⟩
theorem GI.ri (h : GI w b s v z L) (hL : L ≤ 1000000) : RI w s v z L := by
  obtain ⟨x, h1, h2⟩ := h; exact ⟨x, h1.rv hL, h2⟩
theorem NV.ni (h : NV w v z.natAbs L) : NI w (decide (z < 0)) v z L := ⟨h, rfl⟩
theorem RI.flip (h : RI w s v z L) : RI w (!s) v (-z) L := by
  obtain ⟨x, h1, h2⟩ := h
  refine ⟨x, h1, ?_⟩
  rw [h2]; cases s <;> simp [sg_true, sg_false]
end

section
variable {A A' : Option Addr} {n n' c c' x y L L' : Nat} {s s' : Bool} {z z' : Int} {w : World}
/-- The sign that signed gives. -/
theorem signed_any (s : Bool) (h : NV w (.slice A n c) x L) :
    Calls Tryd.prog 32 #[.bool s, .slice A n c] w fun e w' => e = .returned (.agg #[.bool (decide (sg s x < 0)), .slice A n c]) ∧ Below w.heap.size w w' := by
  have hn := (Raw.cap h.1).1
  rw [sg_neg]
  rcases Nat.eq_zero_or_pos x with rfl | h0
  · have hn0 : n = 0 := by rw [digs_zero] at hn; exact hn
    subst hn0
    clear h hn
    cases s
    all_goals
      go_enter Tryd.func32, Tryd.ntmps32
      go_wp2_with fail
      go_returns
      exact ⟨rfl, below_alloc w _⟩
  · have hnp : 0 < n := by rw [hn]; exact digs_length_pos h0
    have hd : decide (0 < x) = true := decide_eq_true h0
    rw [hd]
    clear h hn hd h0
    cases s
    all_goals
      go_enter Tryd.func32, Tryd.ntmps32
      go_wp2_with fail
      go_returns
      exact ⟨rfl, below_alloc w _⟩
/-- signed of an absolute value in normal form. -/
theorem signed_v (s : Bool) (h : NV w (.slice A n c) x L) (hz : sg s x = z) :
    Calls Tryd.prog 32 #[.bool s, .slice A n c] w fun e w' => ∃ t, e = .returned (.agg #[.bool t, .slice A n c]) ∧ NI w' t (.slice A n c) z L ∧ Below w.heap.size w w' := by
  refine (signed_any s h).mono ?_
  rintro e w' ⟨rfl, hb⟩
  subst hz
  exact ⟨_, rfl, ⟨by rw [sg_abs]; exact h.below hb, rfl⟩, hb⟩
theorem NI.stored {g : Nat} {t : TypeId} {cs : Array Value} {v : Value} (h : NI w s v z L) (hb : Box w g cs t) (hc : cs.all notInt = true) (u0 u1 : Value) : NI ((w.setCell ⟨g, 0, none⟩ u0).setCell ⟨g, 1, none⟩ u1) s v z L :=
  ⟨h.1.stored hb hc u0 u1, h.2⟩
set_option maxRecDepth 100000 in
theorem ineg_v (h : RI w s (.slice A n c) z L) (hL : L ≤ 1000000) :
    Calls Tryd.prog 9 #[.agg #[.bool s, .slice A n c]] w fun e w' => ∃ t B k d, e = .returned (.agg #[.bool t, .slice B k d]) ∧ NI w' t (.slice B k d) (-z) L ∧ Below w.heap.size w w' := by
  have hs := h.flip.sg
  have hr := h.rv
  rw [Int.natAbs_neg] at hs
  have HS := Lib.hid hs
  clear h hs
  go_enter Tryd.func9, Tryd.ntmps9
  go_wp2_with fail
  obtain ⟨W, hW, b0, b1, hbW, hsz⟩ := boxes2 w #[.bool s, .slice A n c] #[.bool false, .slice none 0 0] 28 28
  rw [hW]
  have c0 := b0.cell 0 _ rfl
  have c1 := b0.cell 1 _ rfl
  have hr1 := hr.below hbW
  clear hW hr
  go_region_held3 (fun V => V.cell? ⟨w.heap.size, 0, none⟩ = some (.bool s) ∧ V.cell? ⟨w.heap.size, 1, none⟩ = some (.slice A n c)) (first | exact ⟨c0, c1⟩ | exact ⟨HC0, HC1⟩ | exact ⟨KC0, KC1⟩ | go_keep)
    (first
      | (go_at_call 35; refine (norm_v (w := W.drew) hr1 hL).mono ?_; rintro e w1 ⟨B, k, d, rfl, hN, hb1⟩; have q0 := Box.below (w := W.drew) b0 hb1; have q1 := Box.below (w := W.drew) b1 hb1; have HC0 := q0.cell 0 _ rfl; have HC1 := q0.cell 1 _ rfl)
      | (go_at_call 32; refine (signed_v (!s) hN HS.out.symm).mono ?_; rintro e w2 ⟨t, rfl, hI, hb2⟩; have p0 := q0.below hb2; have p1 := q1.below hb2; have KC0 := p0.cell 0 _ rfl; have KC1 := p0.cell 1 _ rfl; have r0 := p1.cell 0 _ rfl; have r1 := p1.cell 1 _ rfl; have f0 := p1.frozen 0; have f1 := p1.frozen 1))
  have hI2 := hI.stored p1 (notInt_box _ _ _ _) (.bool t) (.slice B k d)
  have hbf : Below w.heap.size w ((w2.setCell ⟨w.heap.size + 1, 0, none⟩ (.bool t)).setCell ⟨w.heap.size + 1, 1, none⟩ (.slice B k d)) := below_stored (hbW.trans (((below_drawn hb1).trans (hb2.mono hb1.size)).mono hbW.size)) (by omega) _ _
  have hbx := p1.stored (.bool t) (.slice B k d)
  go_wp2_with fail
  refine bodyPost_ret (ret_int rfl rfl hbx) rfl ?_
  exact ⟨t, B, k, d, rfl, hI2, hbf⟩
set_option maxRecDepth 100000 in
theorem iabs_v (h : RI w s (.slice A n c) z L) (hL : L ≤ 1000000) :
    Calls Tryd.prog 12 #[.agg #[.bool s, .slice A n c]] w fun e w' => ∃ B k d, e = .returned (.slice B k d) ∧ NV w' (.slice B k d) z.natAbs L ∧ Below w.heap.size w w' := by
  have hr := h.rv
  clear h
  go_enter Tryd.func12, Tryd.ntmps12
  go_wp2_with fail
  obtain ⟨W, hW, b0, hbW, hsz⟩ := boxes1 w #[.bool s, .slice A n c] 28
  rw [hW]
  refine (norm_v (hr.below hbW) hL).mono ?_
  rintro e w' ⟨B, k, d, rfl, hN, hb⟩
  have hbf := hbW.trans (hb.mono hbW.size)
  go_wp2_with fail
  go_returns
  exact ⟨B, k, d, rfl, hN, hbf⟩
theorem bitsN_pos {x : Nat} (h : 0 < x) : 0 < bitsN x := by
  unfold bitsN topBits
  rw [if_neg (by omega)]
  have h1 := le_of_digs_length h
  have h2 := lt_of_digs_length (Nat.le_refl (digs x).length)
  have h3 := digs_length_pos h
  obtain ⟨m, hm⟩ : ∃ m, (digs x).length = m + 1 := ⟨(digs x).length - 1, by omega⟩
  rw [hm, Nat.add_sub_cancel] at h1 ⊢
  rw [hm, Bs_succ] at h2
  have h4 : 0 < (digs x).getD m 0 := by
    rw [digs_digit, Nat.mod_eq_of_lt (Nat.div_lt_of_lt_mul (by rw [Nat.mul_comm]; exact h2))]
    exact Nat.div_pos h1 (Bs_pos m)
  have h5 : (digs x).getD m 0 < 4294967296 := okD_getD (okD_digs x) m
  have h6 := Lib.bitLen_half ((digs x).getD m 0) (by omega) (by omega)
  omega
/-- The sign of an integer, as an int. -/
theorem isign_v (h : RI w s (.slice A n c) z L) :
    Calls Tryd.prog 65 #[.agg #[.bool s, .slice A n c]] w fun e w' => e = .returned (.int .i64 z.sign) ∧ Below w.heap.size w w' := by
  have hr := h.rv
  have hs := h.sg
  rcases Nat.eq_zero_or_pos z.natAbs with h0 | h0
  · have hz : z = 0 := by omega
    have hbt : bitsN z.natAbs = 0 := by rw [h0]; rfl
    subst hz
    have HB := Lib.hid hbt
    clear h hs h0 hbt
    go_enter Tryd.func65, Tryd.ntmps65
    go_wp2_with fail
    obtain ⟨W, hW, b0, hbW, hsz⟩ := boxes1 w #[.bool s, .slice A n c] 28
    rw [hW]
    refine (bits_v (hr.below hbW)).mono ?_
    rintro e w' ⟨rfl, hb⟩
    rw [HB.out]
    have hbf := hbW.trans (hb.mono hbW.size)
    go_wp2_with fail
    go_returns
    exact ⟨rfl, hbf⟩
  · have hbt : 0 < bitsN z.natAbs := bitsN_pos h0
    generalize hbn : bitsN z.natAbs = bn at hbt
    have HBN := Lib.hid hbn
    have hb0 : ((bn : Int) == 0) = false := by rw [beq_eq_false_iff_ne]; omega
    have HS := Lib.hid hs
    have hzp : z ≠ 0 := by omega
    clear h hs hbn hbt h0
    cases s
    · have hsg : z.sign = 1 := Int.sign_eq_one_of_pos (by have := HS.out; rw [sg_false] at this; omega)
      have HG := Lib.hid hsg
      clear hsg hzp
      go_enter Tryd.func65, Tryd.ntmps65
      go_wp2_with fail
      obtain ⟨W, hW, b0, hbW, hsz⟩ := boxes1 w #[.bool false, .slice A n c] 28
      rw [hW]
      refine (bits_v (hr.below hbW)).mono ?_
      rintro e w' ⟨rfl, hb⟩
      rw [HBN.out]
      have hbf := hbW.trans (hb.mono hbW.size)
      have c0 := (b0.below hb).cell 0 _ rfl
      go_wp2_with fail
      go_returns
      exact ⟨by rw [HG.out]; rfl, hbf⟩
    · have hsg : z.sign = -1 := Int.sign_eq_neg_one_of_neg (by have := HS.out; rw [sg_true] at this; omega)
      have HG := Lib.hid hsg
      clear hsg hzp
      go_enter Tryd.func65, Tryd.ntmps65
      go_wp2_with fail
      obtain ⟨W, hW, b0, hbW, hsz⟩ := boxes1 w #[.bool true, .slice A n c] 28
      rw [hW]
      refine (bits_v (hr.below hbW)).mono ?_
      rintro e w' ⟨rfl, hb⟩
      rw [HBN.out]
      have hbf := hbW.trans (hb.mono hbW.size)
      have c0 := (b0.below hb).cell 0 _ rfl
      go_wp2_with fail
      go_returns
      exact ⟨by rw [HG.out]; rfl, hbf⟩
end
end Go.Proofs.YtkhfadfjkmhpgaaDoor
namespace Go.Proofs.YtkhfadfjkmhpgaaDoor
open Go.RowKit

theorem cmpI_sign (x y : Nat) : cmpI x y = ((x : Int) - y).sign := by
  rcases Nat.lt_trichotomy x y with h | h | h
  · rw [cmpI_lt h, Int.sign_eq_neg_one_of_neg (by omega)]
  · subst h; rw [cmpI_eq rfl, Int.sub_self]; rfl
  · rw [cmpI_gt h, Int.sign_eq_one_of_pos (by omega)]
theorem sign_cases (z : Int) : (z < 0 ∧ z.sign = -1) ∨ (z = 0 ∧ z.sign = 0) ∨ (0 < z ∧ z.sign = 1) := by
  rcases Int.lt_trichotomy z 0 with h | h | h
  · exact .inl ⟨h, Int.sign_eq_neg_one_of_neg h⟩
  · exact .inr (.inl ⟨h, by subst h; rfl⟩)
  · exact .inr (.inr ⟨h, Int.sign_eq_one_of_pos h⟩)
theorem sign_le (z : Int) : -1 ≤ z.sign ∧ z.sign ≤ 1 := by rcases sign_cases z with h | h | h <;> omega
theorem NV.more {w : World} {v : Value} {x L L' : Nat} (h : NV w v x L) (hL : L ≤ L') : NV w v x L' := ⟨h.1, Nat.lt_of_lt_of_le h.2 (Bs_mono hL)⟩

section
variable {A A' : Option Addr} {n n' c c' x y L L' : Nat} {s s' : Bool} {z z' : Int} {w : World}
end
end Go.Proofs.YtkhfadfjkmhpgaaDoor
namespace Go.Proofs.YtkhfadfjkmhpgaaDoor
open Go.RowKit
section
variable {A A' : Option Addr} {n n' c c' x y L L' : Nat} {s s' : Bool} {z z' : Int} {w : World}
theorem sub_no_v (hx : RV w (.slice A n c) x L) (hy : RV w (.slice A' n' c') y L') (h : x < y) :
    Calls Tryd.prog 31 #[.slice A n c, .slice A' n' c'] w fun e w' => e = .returned (.tuple #[.slice none 0 0, .bool false]) ∧ Below w.heap.size w w' := by
  obtain ⟨ds, h1, h2, h3⟩ := hx
  obtain ⟨es, k1, k2, k3⟩ := hy
  exact sub_lt h1 k1 (Lib.hid h2) (Lib.hid k2) h
set_option maxRecDepth 100000 in
theorem iadd_same (s : Bool) (hx : RV w (.slice A n c) x L) (hy : RV w (.slice A' n' c') y L') (hL : L ≤ 1000000) (hL' : L' ≤ 1000000) (hz : sg s (x + y) = z) :
    Calls Tryd.prog 14 #[.agg #[.bool s, .slice A n c], .agg #[.bool s, .slice A' n' c']] w fun e w' => ∃ t B k d, e = .returned (.agg #[.bool t, .slice B k d]) ∧ NI w' t (.slice B k d) z (max L L' + 1) ∧ Below w.heap.size w w' := by
  have HZ := Lib.hid hz
  clear hz
  cases s
  · go_enter Tryd.func14, Tryd.ntmps14
    go_wp2_with fail
    obtain ⟨W, hW, b0, b1, b2, hbW, hsz⟩ := boxes3 w #[.bool false, .slice A n c] #[.bool false, .slice A' n' c'] #[.bool false, .slice none 0 0] 28 28 28
    rw [hW]
    have a0 := b0.cell 0 _ rfl
    have a1 := b0.cell 1 _ rfl
    have d0 := b1.cell 0 _ rfl
    have d1 := b1.cell 1 _ rfl
    have hx1 := hx.below hbW
    have hy1 := hy.below hbW
    clear hW hx hy
    go_wp2_with fail
    go_region_held3 (fun V => V.cell? ⟨w.heap.size, 0, none⟩ = some (.bool false) ∧ V.cell? ⟨w.heap.size, 1, none⟩ = some (.slice A n c) ∧ V.cell? ⟨w.heap.size + 1, 0, none⟩ = some (.bool false) ∧ V.cell? ⟨w.heap.size + 1, 1, none⟩ = some (.slice A' n' c')) (first | exact ⟨a0, a1, d0, d1⟩ | exact HC | exact KC | exact ⟨(p0.far (by omega) _ _).cell 0 _ rfl, (p0.far (by omega) _ _).cell 1 _ rfl, (p1.far (by omega) _ _).cell 0 _ rfl, (p1.far (by omega) _ _).cell 1 _ rfl⟩ | go_keep)
      (first
        | (go_at_call 29; refine (add_v (w := W.drew) hx1 hy1 hL hL').mono ?_; rintro e w1 ⟨B, k, d, rfl, hN, hb1⟩; have hb1' := below_drawn hb1; have q0 := b0.below hb1'; have q1 := b1.below hb1'; have q2 := b2.below hb1'; have HC := And.intro (q0.cell 0 _ rfl) (And.intro (q0.cell 1 _ rfl) (And.intro (q1.cell 0 _ rfl) (q1.cell 1 _ rfl))))
        | (go_at_call 32; refine (signed_v _ hN HZ.out).mono ?_; rintro e w2 ⟨t, rfl, hI, hb2⟩; have p0 := q0.below hb2; have p1 := q1.below hb2; have p2 := q2.below hb2; have KC := And.intro (p0.cell 0 _ rfl) (And.intro (p0.cell 1 _ rfl) (And.intro (p1.cell 0 _ rfl) (p1.cell 1 _ rfl))); have r0 := p2.cell 0 _ rfl; have r1 := p2.cell 1 _ rfl; have f0 := p2.frozen 0; have f1 := p2.frozen 1; have hbT := hbW.trans ((hb1'.trans (hb2.mono hb1'.size)).mono hbW.size)))
    have hI2 := hI.stored p2 (notInt_box _ _ _ _) (.bool t) (.slice B k d)
    have hbf := below_stored (g := w.heap.size + 1 + 1) hbT (by omega) (.bool t) (.slice B k d)
    have hbx := p2.stored (.bool t) (.slice B k d)
    go_wp2_with fail
    refine bodyPost_ret (ret_int rfl rfl hbx) rfl ?_
    exact ⟨t, B, k, d, rfl, hI2, hbf⟩
  · go_enter Tryd.func14, Tryd.ntmps14
    go_wp2_with fail
    obtain ⟨W, hW, b0, b1, b2, hbW, hsz⟩ := boxes3 w #[.bool true, .slice A n c] #[.bool true, .slice A' n' c'] #[.bool false, .slice none 0 0] 28 28 28
    rw [hW]
    have a0 := b0.cell 0 _ rfl
    have a1 := b0.cell 1 _ rfl
    have d0 := b1.cell 0 _ rfl
    have d1 := b1.cell 1 _ rfl
    have hx1 := hx.below hbW
    have hy1 := hy.below hbW
    clear hW hx hy
    go_wp2_with fail
    go_region_held3 (fun V => V.cell? ⟨w.heap.size, 0, none⟩ = some (.bool true) ∧ V.cell? ⟨w.heap.size, 1, none⟩ = some (.slice A n c) ∧ V.cell? ⟨w.heap.size + 1, 0, none⟩ = some (.bool true) ∧ V.cell? ⟨w.heap.size + 1, 1, none⟩ = some (.slice A' n' c')) (first | exact ⟨a0, a1, d0, d1⟩ | exact HC | exact KC | exact ⟨(p0.far (by omega) _ _).cell 0 _ rfl, (p0.far (by omega) _ _).cell 1 _ rfl, (p1.far (by omega) _ _).cell 0 _ rfl, (p1.far (by omega) _ _).cell 1 _ rfl⟩ | go_keep)
      (first
        | (go_at_call 29; refine (add_v (w := W.drew) hx1 hy1 hL hL').mono ?_; rintro e w1 ⟨B, k, d, rfl, hN, hb1⟩; have hb1' := below_drawn hb1; have q0 := b0.below hb1'; have q1 := b1.below hb1'; have q2 := b2.below hb1'; have HC := And.intro (q0.cell 0 _ rfl) (And.intro (q0.cell 1 _ rfl) (And.intro (q1.cell 0 _ rfl) (q1.cell 1 _ rfl))))
        | (go_at_call 32; refine (signed_v _ hN HZ.out).mono ?_; rintro e w2 ⟨t, rfl, hI, hb2⟩; have p0 := q0.below hb2; have p1 := q1.below hb2; have p2 := q2.below hb2; have KC := And.intro (p0.cell 0 _ rfl) (And.intro (p0.cell 1 _ rfl) (And.intro (p1.cell 0 _ rfl) (p1.cell 1 _ rfl))); have r0 := p2.cell 0 _ rfl; have r1 := p2.cell 1 _ rfl; have f0 := p2.frozen 0; have f1 := p2.frozen 1; have hbT := hbW.trans ((hb1'.trans (hb2.mono hb1'.size)).mono hbW.size)))
    have hI2 := hI.stored p2 (notInt_box _ _ _ _) (.bool t) (.slice B k d)
    have hbf := below_stored (g := w.heap.size + 1 + 1) hbT (by omega) (.bool t) (.slice B k d)
    have hbx := p2.stored (.bool t) (.slice B k d)
    go_wp2_with fail
    refine bodyPost_ret (ret_int rfl rfl hbx) rfl ?_
    exact ⟨t, B, k, d, rfl, hI2, hbf⟩
end
end Go.Proofs.YtkhfadfjkmhpgaaDoor
namespace Go.Proofs.YtkhfadfjkmhpgaaDoor
open Go.RowKit
section
variable {A A' : Option Addr} {n n' c c' x y L L' : Nat} {s s' : Bool} {z z' : Int} {w : World}
set_option maxRecDepth 100000 in
theorem iadd_ge (hs : (s = true ∧ s' = false) ∨ (s = false ∧ s' = true)) (hx : RV w (.slice A n c) x L) (hy : RV w (.slice A' n' c') y L') (hle : y ≤ x) (hz : sg s (x - y) = z) :
    Calls Tryd.prog 14 #[.agg #[.bool s, .slice A n c], .agg #[.bool s', .slice A' n' c']] w fun e w' => ∃ t B k d, e = .returned (.agg #[.bool t, .slice B k d]) ∧ NI w' t (.slice B k d) z (max L L' + 1) ∧ Below w.heap.size w w' := by
  have HZ := Lib.hid hz
  have HLE := Lib.hid hle
  clear hz hle
  rcases hs with ⟨rfl, rfl⟩ | ⟨rfl, rfl⟩
  · go_enter Tryd.func14, Tryd.ntmps14
    go_wp2_with fail
    obtain ⟨W, hW, b0, b1, b2, hbW, hsz⟩ := boxes3 w #[.bool true, .slice A n c] #[.bool false, .slice A' n' c'] #[.bool false, .slice none 0 0] 28 28 28
    rw [hW]
    have a0 := b0.cell 0 _ rfl
    have a1 := b0.cell 1 _ rfl
    have d0 := b1.cell 0 _ rfl
    have d1 := b1.cell 1 _ rfl
    have hx1 := hx.below hbW
    have hy1 := hy.below hbW
    clear hW hx hy
    go_wp2_with fail
    refine (sub_v hx1 hy1 HLE.out).mono ?_
    rintro e w1 ⟨B, k, d, rfl, hN0, hb1'⟩
    have hN := hN0.more (L' := max L L' + 1) (by omega)
    have q0 := b0.below hb1'
    have q1 := b1.below hb1'
    have q2 := b2.below hb1'
    have e0 := q0.cell 0 _ rfl
    clear a0 a1 d0 d1 hx1 hy1 hN0
    go_wp2_with fail
    refine (signed_v _ hN HZ.out).mono ?_
    rintro e w2 ⟨t, rfl, hI, hb2⟩
    have p2 := q2.below hb2
    have r0 := p2.cell 0 _ rfl
    have r1 := p2.cell 1 _ rfl
    have f0 := p2.frozen 0
    have f1 := p2.frozen 1
    have hbT := hbW.trans ((hb1'.trans (hb2.mono hb1'.size)).mono hbW.size)
    clear q0 q1 q2
    have hI2 := hI.stored p2 (notInt_box _ _ _ _) (.bool t) (.slice B k d)
    have hbf := below_stored (g := w.heap.size + 1 + 1) hbT (by omega) (.bool t) (.slice B k d)
    have hbx := p2.stored (.bool t) (.slice B k d)
    go_wp2_with fail
    refine bodyPost_ret (ret_int rfl rfl hbx) rfl ?_
    exact ⟨t, B, k, d, rfl, hI2, hbf⟩
  · go_enter Tryd.func14, Tryd.ntmps14
    go_wp2_with fail
    obtain ⟨W, hW, b0, b1, b2, hbW, hsz⟩ := boxes3 w #[.bool false, .slice A n c] #[.bool true, .slice A' n' c'] #[.bool false, .slice none 0 0] 28 28 28
    rw [hW]
    have a0 := b0.cell 0 _ rfl
    have a1 := b0.cell 1 _ rfl
    have d0 := b1.cell 0 _ rfl
    have d1 := b1.cell 1 _ rfl
    have hx1 := hx.below hbW
    have hy1 := hy.below hbW
    clear hW hx hy
    go_wp2_with fail
    refine (sub_v hx1 hy1 HLE.out).mono ?_
    rintro e w1 ⟨B, k, d, rfl, hN0, hb1'⟩
    have hN := hN0.more (L' := max L L' + 1) (by omega)
    have q0 := b0.below hb1'
    have q1 := b1.below hb1'
    have q2 := b2.below hb1'
    have e0 := q0.cell 0 _ rfl
    clear a0 a1 d0 d1 hx1 hy1 hN0
    go_wp2_with fail
    refine (signed_v _ hN HZ.out).mono ?_
    rintro e w2 ⟨t, rfl, hI, hb2⟩
    have p2 := q2.below hb2
    have r0 := p2.cell 0 _ rfl
    have r1 := p2.cell 1 _ rfl
    have f0 := p2.frozen 0
    have f1 := p2.frozen 1
    have hbT := hbW.trans ((hb1'.trans (hb2.mono hb1'.size)).mono hbW.size)
    clear q0 q1 q2
    have hI2 := hI.stored p2 (notInt_box _ _ _ _) (.bool t) (.slice B k d)
    have hbf := below_stored (g := w.heap.size + 1 + 1) hbT (by omega) (.bool t) (.slice B k d)
    have hbx := p2.stored (.bool t) (.slice B k d)
    go_wp2_with fail
    refine bodyPost_ret (ret_int rfl rfl hbx) rfl ?_
    exact ⟨t, B, k, d, rfl, hI2, hbf⟩
set_option maxRecDepth 100000 in
theorem iadd_lt (hs : (s = true ∧ s' = false) ∨ (s = false ∧ s' = true)) (hx : RV w (.slice A n c) x L) (hy : RV w (.slice A' n' c') y L') (hlt : x < y) (hz : sg s' (y - x) = z) :
    Calls Tryd.prog 14 #[.agg #[.bool s, .slice A n c], .agg #[.bool s', .slice A' n' c']] w fun e w' => ∃ t B k d, e = .returned (.agg #[.bool t, .slice B k d]) ∧ NI w' t (.slice B k d) z (max L L' + 1) ∧ Below w.heap.size w w' := by
  have HZ := Lib.hid hz
  have HLE := Lib.hid hlt
  clear hz hlt
  rcases hs with ⟨rfl, rfl⟩ | ⟨rfl, rfl⟩
  · go_enter Tryd.func14, Tryd.ntmps14
    go_wp2_with fail
    obtain ⟨W, hW, b0, b1, b2, hbW, hsz⟩ := boxes3 w #[.bool true, .slice A n c] #[.bool false, .slice A' n' c'] #[.bool false, .slice none 0 0] 28 28 28
    rw [hW]
    have a0 := b0.cell 0 _ rfl
    have a1 := b0.cell 1 _ rfl
    have d0 := b1.cell 0 _ rfl
    have d1 := b1.cell 1 _ rfl
    have hx1 := hx.below hbW
    have hy1 := hy.below hbW
    clear hW hx hy
    go_wp2_with fail
    refine (sub_no_v hx1 hy1 HLE.out).mono ?_
    rintro e w0 ⟨rfl, hb0⟩
    have m0 := b0.below hb0
    have m1 := b1.below hb0
    have m2 := b2.below hb0
    have i1 := m0.cell 1 _ rfl
    have j1 := m1.cell 1 _ rfl
    have hx2 := hx1.below hb0
    have hy2 := hy1.below hb0
    clear a0 a1 d0 d1 hx1 hy1
    go_wp2_with fail
    refine (sub_v hy2 hx2 (Nat.le_of_lt HLE.out)).mono ?_
    rintro e w1 ⟨B, k, d, rfl, hN0, hb1⟩
    have hN := hN0.more (L' := max L L' + 1) (by omega)
    have hb1' := hb0.trans (hb1.mono hb0.size)
    have q0 := m0.below hb1
    have q1 := m1.below hb1
    have q2 := m2.below hb1
    have e0 := q1.cell 0 _ rfl
    clear i1 j1 hx2 hy2 hN0 b0 b1 b2 m0 m1 m2
    go_wp2_with fail
    refine (signed_v _ hN HZ.out).mono ?_
    rintro e w2 ⟨t, rfl, hI, hb2⟩
    have p2 := q2.below hb2
    have r0 := p2.cell 0 _ rfl
    have r1 := p2.cell 1 _ rfl
    have f0 := p2.frozen 0
    have f1 := p2.frozen 1
    have hbT := hbW.trans ((hb1'.trans (hb2.mono hb1'.size)).mono hbW.size)
    clear q0 q1 q2
    have hI2 := hI.stored p2 (notInt_box _ _ _ _) (.bool t) (.slice B k d)
    have hbf := below_stored (g := w.heap.size + 1 + 1) hbT (by omega) (.bool t) (.slice B k d)
    have hbx := p2.stored (.bool t) (.slice B k d)
    go_wp2_with fail
    refine bodyPost_ret (ret_int rfl rfl hbx) rfl ?_
    exact ⟨t, B, k, d, rfl, hI2, hbf⟩
  · go_enter Tryd.func14, Tryd.ntmps14
    go_wp2_with fail
    obtain ⟨W, hW, b0, b1, b2, hbW, hsz⟩ := boxes3 w #[.bool false, .slice A n c] #[.bool true, .slice A' n' c'] #[.bool false, .slice none 0 0] 28 28 28
    rw [hW]
    have a0 := b0.cell 0 _ rfl
    have a1 := b0.cell 1 _ rfl
    have d0 := b1.cell 0 _ rfl
    have d1 := b1.cell 1 _ rfl
    have hx1 := hx.below hbW
    have hy1 := hy.below hbW
    clear hW hx hy
    go_wp2_with fail
    refine (sub_no_v hx1 hy1 HLE.out).mono ?_
    rintro e w0 ⟨rfl, hb0⟩
    have m0 := b0.below hb0
    have m1 := b1.below hb0
    have m2 := b2.below hb0
    have i1 := m0.cell 1 _ rfl
    have j1 := m1.cell 1 _ rfl
    have hx2 := hx1.below hb0
    have hy2 := hy1.below hb0
    clear a0 a1 d0 d1 hx1 hy1
    go_wp2_with fail
    refine (sub_v hy2 hx2 (Nat.le_of_lt HLE.out)).mono ?_
    rintro e w1 ⟨B, k, d, rfl, hN0, hb1⟩
    have hN := hN0.more (L' := max L L' + 1) (by omega)
    have hb1' := hb0.trans (hb1.mono hb0.size)
    have q0 := m0.below hb1
    have q1 := m1.below hb1
    have q2 := m2.below hb1
    have e0 := q1.cell 0 _ rfl
    clear i1 j1 hx2 hy2 hN0 b0 b1 b2 m0 m1 m2
    go_wp2_with fail
    refine (signed_v _ hN HZ.out).mono ?_
    rintro e w2 ⟨t, rfl, hI, hb2⟩
    have p2 := q2.below hb2
    have r0 := p2.cell 0 _ rfl
    have r1 := p2.cell 1 _ rfl
    have f0 := p2.frozen 0
    have f1 := p2.frozen 1
    have hbT := hbW.trans ((hb1'.trans (hb2.mono hb1'.size)).mono hbW.size)
    clear q0 q1 q2
    have hI2 := hI.stored p2 (notInt_box _ _ _ _) (.bool t) (.slice B k d)
    have hbf := below_stored (g := w.heap.size + 1 + 1) hbT (by omega) (.bool t) (.slice B k d)
    have hbx := p2.stored (.bool t) (.slice B k d)
    go_wp2_with fail
    refine bodyPost_ret (ret_int rfl rfl hbx) rfl ?_
    exact ⟨t, B, k, d, rfl, hI2, hbf⟩
theorem iadd_v (h : RI w s (.slice A n c) z L) (h' : RI w s' (.slice A' n' c') z' L') (hL : L ≤ 1000000) (hL' : L' ≤ 1000000) :
    Calls Tryd.prog 14 #[.agg #[.bool s, .slice A n c], .agg #[.bool s', .slice A' n' c']] w fun e w' => ∃ t B k d, e = .returned (.agg #[.bool t, .slice B k d]) ∧ NI w' t (.slice B k d) (z + z') (max L L' + 1) ∧ Below w.heap.size w w' := by
  obtain ⟨x, hx, rfl⟩ := h
  obtain ⟨y, hy, rfl⟩ := h'
  by_cases hs : s = s'
  · subst hs
    exact iadd_same s hx hy hL hL' (by cases s <;> simp [sg] <;> omega)
  · have hs' : (s = true ∧ s' = false) ∨ (s = false ∧ s' = true) := by cases s <;> cases s' <;> simp_all
    rcases Nat.lt_or_ge x y with hlt | hle
    · exact iadd_lt hs' hx hy hlt (by rcases hs' with ⟨rfl, rfl⟩ | ⟨rfl, rfl⟩ <;> simp [sg] <;> omega)
    · exact iadd_ge hs' hx hy hle (by rcases hs' with ⟨rfl, rfl⟩ | ⟨rfl, rfl⟩ <;> simp [sg] <;> omega)
set_option maxRecDepth 100000 in
theorem isub_v (h : RI w s (.slice A n c) z L) (h' : RI w s' (.slice A' n' c') z' L') (hL : L ≤ 1000000) (hL' : L' ≤ 1000000) :
    Calls Tryd.prog 16 #[.agg #[.bool s, .slice A n c], .agg #[.bool s', .slice A' n' c']] w fun e w' => ∃ t B k d, e = .returned (.agg #[.bool t, .slice B k d]) ∧ NI w' t (.slice B k d) (z - z') (max L L' + 1) ∧ Below w.heap.size w w' := by
    go_enter Tryd.func16, Tryd.ntmps16
    go_wp2_with fail
    obtain ⟨W, hW, b0, b1, b2, hbW, hsz⟩ := boxes3 w #[.bool s, .slice A n c] #[.bool (!s'), .slice A' n' c'] #[.bool false, .slice none 0 0] 28 28 28
    rw [hW]
    have H := iadd_v (h.below hbW) (h'.flip.below hbW) hL hL'
    rw [show z + -z' = z - z' by omega] at H
    clear hW
    refine H.mono ?_
    rintro e w2 ⟨t, B, k, d, rfl, hI, hb2⟩
    have p2 := b2.below hb2
    have r0 := p2.cell 0 _ rfl
    have r1 := p2.cell 1 _ rfl
    have f0 := p2.frozen 0
    have f1 := p2.frozen 1
    have hbT := hbW.trans (hb2.mono hbW.size)
    clear H b0 b1 b2
    have hI2 := hI.stored p2 (notInt_box _ _ _ _) (.bool t) (.slice B k d)
    have hbf := below_stored (g := w.heap.size + 1 + 1) hbT (by omega) (.bool t) (.slice B k d)
    have hbx := p2.stored (.bool t) (.slice B k d)
    go_wp2_with fail
    refine bodyPost_ret (ret_int rfl rfl hbx) rfl ?_
    exact ⟨t, B, k, d, rfl, hI2, hbf⟩
set_option maxRecDepth 100000 in
theorem imul_v (h : RI w s (.slice A n c) z L) (h' : RI w s' (.slice A' n' c') z' L') (hL : L ≤ 1000000) (hL' : L' ≤ 1000000) :
    Calls Tryd.prog 17 #[.agg #[.bool s, .slice A n c], .agg #[.bool s', .slice A' n' c']] w fun e w' => ∃ t B k d, e = .returned (.agg #[.bool t, .slice B k d]) ∧ NI w' t (.slice B k d) (z * z') (L + L') ∧ Below w.heap.size w w' := by
  obtain ⟨x, hx, rfl⟩ := h
  obtain ⟨y, hy, rfl⟩ := h'
  have hz : sg (s != s') (x * y) = sg s x * sg s' y := by
    cases s <;> cases s' <;> simp [sg, Int.neg_mul, Int.mul_neg]
  have HZ := Lib.hid hz
  clear hz
  generalize sg s x * sg s' y = z at *
  go_enter Tryd.func17, Tryd.ntmps17
  go_wp2_with fail
  obtain ⟨W, hW, b0, b1, b2, hbW, hsz⟩ := boxes3 w #[.bool s, .slice A n c] #[.bool s', .slice A' n' c'] #[.bool false, .slice none 0 0] 28 28 28
  rw [hW]
  have a0 := b0.cell 0 _ rfl
  have a1 := b0.cell 1 _ rfl
  have d0 := b1.cell 0 _ rfl
  have d1 := b1.cell 1 _ rfl
  have hx1 := hx.below hbW
  have hy1 := hy.below hbW
  clear hW hx hy
  go_region_held3 (fun V => V.cell? ⟨w.heap.size, 0, none⟩ = some (.bool s) ∧ V.cell? ⟨w.heap.size, 1, none⟩ = some (.slice A n c) ∧ V.cell? ⟨w.heap.size + 1, 0, none⟩ = some (.bool s') ∧ V.cell? ⟨w.heap.size + 1, 1, none⟩ = some (.slice A' n' c')) (first | exact ⟨a0, a1, d0, d1⟩ | exact HC | exact KC | exact ⟨(p0.far (by omega) _ _).cell 0 _ rfl, (p0.far (by omega) _ _).cell 1 _ rfl, (p1.far (by omega) _ _).cell 0 _ rfl, (p1.far (by omega) _ _).cell 1 _ rfl⟩ | go_keep)
    (first
      | (go_at_call 39; refine (mul_v (w := W.drew) hx1 hy1 hL hL').mono ?_; rintro e w1 ⟨B, k, d, rfl, hN, hb1⟩; have hb1' := below_drawn hb1; have q0 := b0.below hb1'; have q1 := b1.below hb1'; have q2 := b2.below hb1'; have HC := And.intro (q0.cell 0 _ rfl) (And.intro (q0.cell 1 _ rfl) (And.intro (q1.cell 0 _ rfl) (q1.cell 1 _ rfl))))
      | (go_at_call 32; refine (signed_v _ hN HZ.out).mono ?_; rintro e w2 ⟨t, rfl, hI, hb2⟩; have p0 := q0.below hb2; have p1 := q1.below hb2; have p2 := q2.below hb2; have KC := And.intro (p0.cell 0 _ rfl) (And.intro (p0.cell 1 _ rfl) (And.intro (p1.cell 0 _ rfl) (p1.cell 1 _ rfl))); have r0 := p2.cell 0 _ rfl; have r1 := p2.cell 1 _ rfl; have f0 := p2.frozen 0; have f1 := p2.frozen 1; have hbT := hbW.trans ((hb1'.trans (hb2.mono hb1'.size)).mono hbW.size)))
  have hI2 := hI.stored p2 (notInt_box _ _ _ _) (.bool t) (.slice B k d)
  have hbf := below_stored (g := w.heap.size + 1 + 1) hbT (by omega) (.bool t) (.slice B k d)
  have hbx := p2.stored (.bool t) (.slice B k d)
  go_wp2_with fail
  refine bodyPost_ret (ret_int rfl rfl hbx) rfl ?_
  exact ⟨t, B, k, d, rfl, hI2, hbf⟩
end
end Go.Proofs.YtkhfadfjkmhpgaaDoor
namespace Go.Proofs.YtkhfadfjkmhpgaaDoor
open Go.RowKit

section
variable {A A' : Option Addr} {n n' c c' x y L L' : Nat} {s s' : Bool} {z z' : Int} {w : World}
/-- Two results that lie in blocks, and one that does not. -/
theorem ret_int2 {fn : Func} {p q r : Tmp} (h : fn.results = #[.cell p 28, .cell q 28, .tmp r]) {tmps : Array Value} {w : World} {g g' : Nat} {a b a' b' : Value} {t t' : TypeId} (hp : tmps.getD p undef = .pointer (some ⟨g, 0, none⟩)) (hq : tmps.getD q undef = .pointer (some ⟨g', 0, none⟩)) (hb : Box w g #[a, b] t) (hb' : Box w g' #[a', b'] t') :
    (results fn tmps).run Tryd.prog w = .ok (.tuple #[.agg #[a, b], .agg #[a', b'], tmps.getD r undef]) w := by
  have hp' : tmps[p]?.getD undef = .pointer (some ⟨g, 0, none⟩) := by simpa using hp
  have hq' : tmps[q]?.getD undef = .pointer (some ⟨g', 0, none⟩) := by simpa using hq
  have h1 := run_loadVar_row (P := Tryd.prog) w g t 28 #[a, b] (0, 0) _ hb Tryd.underlying28 rfl info_int
  have h2 := run_loadVar_row (P := Tryd.prog) w g' t' 28 #[a', b'] (0, 0) _ hb' Tryd.underlying28 rfl info_int
  simp [results, h, hp', hq', asAddr, h1, h2]
set_option maxRecDepth 100000 in
theorem idivmod_zero (h : RI w s (.slice A n c) z L) (h' : RI w s' (.slice A' n' c') 0 L') :
    Calls Tryd.prog 7 #[.agg #[.bool s, .slice A n c], .agg #[.bool s', .slice A' n' c']] w fun e w' => e = .returned (.tuple #[.agg #[.bool false, .slice none 0 0], .agg #[.bool false, .slice none 0 0], .bool false]) ∧ Below w.heap.size w w' := by
    have hx := h.rv
    have hy := h'.rv
    rw [Int.natAbs_zero] at hy
    clear h h'
    go_enter Tryd.func7, Tryd.ntmps7
    go_wp2_with fail
    obtain ⟨W, hW, b0, b1, b2, b3, hbW, hsz⟩ := boxes4 w #[.bool s, .slice A n c] #[.bool s', .slice A' n' c'] #[.bool false, .slice none 0 0] #[.bool false, .slice none 0 0] 28 28 28 28
    rw [hW]
    clear hW
    refine (divmod0_v (hx.below hbW) (hy.below hbW)).mono ?_
    rintro e v2 ⟨rfl, hb⟩
    have z0 := b0.below hb
    have z1 := b1.below hb
    have z2 := b2.below hb
    have z3 := b3.below hb
    have hbT := hbW.trans (hb.mono hbW.size)
    have r0 := z2.cell 0 _ rfl
    have r1 := z2.cell 1 _ rfl
    have f0 := z2.frozen 0
    have f1 := z2.frozen 1
    have r2 := z3.cell 0 _ rfl
    have r3 := z3.cell 1 _ rfl
    have f2 := z3.frozen 0
    have f3 := z3.frozen 1
    have u3 := z3.far (g' := w.heap.size + 1 + 1) (by omega) (.bool false) (.slice none 0 0)
    have u2 := z2.stored (.bool false) (.slice none 0 0)
    have x3 := u3.stored (.bool false) (.slice none 0 0)
    have x2 := u2.far (g' := w.heap.size + 1 + 1 + 1) (by omega) (.bool false) (.slice none 0 0)
    have hbf := below_stored (g := w.heap.size + 1 + 1 + 1) (below_stored (g := w.heap.size + 1 + 1) hbT (by omega) (.bool false) (.slice none 0 0)) (by omega) (.bool false) (.slice none 0 0)
    go_wp2_with fail
    refine bodyPost_ret (ret_int2 rfl rfl rfl x2 x3) rfl ?_
    exact ⟨rfl, hbf⟩
theorem divmod_qr {q r : Nat} {W : World} (hx : RV w (.slice A n c) x L) (hy : RV w (.slice A' n' c') y L') (hy0 : 0 < y) (hL : L ≤ 1000000) (hq : x / y = q) (hr : x % y = r) (hbW : Below w.heap.size w W) :
    Calls Tryd.prog 28 #[.slice A n c, .slice A' n' c'] W fun e w' => ∃ B k d B' k' d', e = .returned (.tuple #[.slice B k d, .slice B' k' d', .bool true]) ∧ NV w' (.slice B k d) q L ∧ NV w' (.slice B' k' d') r L' ∧ Below W.heap.size W w' := by
  subst hq hr
  exact divmod_v (hx.below hbW) (hy.below hbW) hy0 hL
set_option maxRecDepth 100000 in
/-- A dividend that is not negative. -/
theorem idivmod_pos {q r : Nat} {zq zr : Int} (hx : RV w (.slice A n c) x L) (hy : RV w (.slice A' n' c') y L') (hy0 : 0 < y) (hL : L ≤ 1000000) (hq : x / y = q) (hr : x % y = r) (hzq : sg s' q = zq) (hzr : sg false r = zr) :
    Calls Tryd.prog 7 #[.agg #[.bool false, .slice A n c], .agg #[.bool s', .slice A' n' c']] w fun e w' => ∃ t B k d t' B' k' d', e = .returned (.tuple #[.agg #[.bool t, .slice B k d], .agg #[.bool t', .slice B' k' d'], .bool true]) ∧ NI w' t (.slice B k d) zq (max L 2 + 1) ∧ NI w' t' (.slice B' k' d') zr L' ∧ Below w.heap.size w w' := by
  have HH := Lib.hid (fun W hbW => divmod_qr (W := W) hx hy hy0 hL hq hr hbW)
  have HQ := Lib.hid hzq
  have HR := Lib.hid hzr
  clear hx hy hq hr hzq hzr hy0
  go_enter Tryd.func7, Tryd.ntmps7
  go_wp2_with fail
  obtain ⟨W, hW, b0, b1, b2, b3, hbW, hsz⟩ := boxes4 w #[.bool false, .slice A n c] #[.bool s', .slice A' n' c'] #[.bool false, .slice none 0 0] #[.bool false, .slice none 0 0] 28 28 28 28
  rw [hW]
  clear hW
  refine ((HH.out W hbW)).mono ?_
  rintro e w1 ⟨B, k, d, B', k', d', rfl, hQ, hR, hb⟩
  have m0 := b0.below hb
  have m1 := b1.below hb
  have m2 := b2.below hb
  have m3 := b3.below hb
  have g0 := m0.cell 0 _ rfl
  have g1 := m1.cell 0 _ rfl
  have hB1 := hbW.trans (hb.mono hbW.size)
  clear b0 b1 b2 b3
  have hQ2 := hQ.more (L' := max L 2 + 1) (by omega)
  go_wp2_with fail
  refine (signed_v _ hQ2 HQ.out).mono ?_
  rintro e v1 ⟨t, rfl, hI, hc1⟩
  have y0 := m0.below hc1
  have y1 := m1.below hc1
  have y2 := m2.below hc1
  have y3 := m3.below hc1
  have hR1 := NV.below hR hc1
  clear hQ2
  go_wp2_with fail
  refine (signed_v _ hR1 HR.out).mono ?_
  rintro e v2 ⟨t', rfl, hI', hc2⟩
  have z0 := y0.below hc2
  have z1 := y1.below hc2
  have z2 := y2.below hc2
  have z3 := y3.below hc2
  have hI2 := hI.below hc2
  clear y0 y1 y2 y3 hI hR1
  have hbT := hB1.trans ((hc1.trans (hc2.mono hc1.size)).mono hB1.size)
  have r0 := z2.cell 0 _ rfl
  have r1 := z2.cell 1 _ rfl
  have f0 := z2.frozen 0
  have f1 := z2.frozen 1
  have r2 := z3.cell 0 _ rfl
  have r3 := z3.cell 1 _ rfl
  have f2 := z3.frozen 0
  have f3 := z3.frozen 1
  have u3 := z3.far (g' := w.heap.size + 1 + 1) (by omega) (.bool t) (.slice B k d)
  have u2 := z2.stored (.bool t) (.slice B k d)
  have x3 := u3.stored (.bool t') (.slice B' k' d')
  have x2 := u2.far (g' := w.heap.size + 1 + 1 + 1) (by omega) (.bool t') (.slice B' k' d')
  have hF := (hI2.stored z2 (notInt_box _ _ _ _) (.bool t) (.slice B k d)).stored u3 (notInt_box _ _ _ _) (.bool t') (.slice B' k' d')
  have hG := (hI'.stored z2 (notInt_box _ _ _ _) (.bool t) (.slice B k d)).stored u3 (notInt_box _ _ _ _) (.bool t') (.slice B' k' d')
  have hbf := below_stored (g := w.heap.size + 1 + 1 + 1) (below_stored (g := w.heap.size + 1 + 1) hbT (by omega) (.bool t) (.slice B k d)) (by omega) (.bool t') (.slice B' k' d')
  go_wp2_with fail
  refine bodyPost_ret (ret_int2 rfl rfl rfl x2 x3) rfl ?_
  exact ⟨t, _, _, _, t', _, _, _, rfl, hF, hG, hbf⟩
set_option maxRecDepth 100000 in
/-- A negative dividend without a remainder. -/
theorem idivmod_even {q : Nat} {zq : Int} (hx : RV w (.slice A n c) x L) (hy : RV w (.slice A' n' c') y L') (hy0 : 0 < y) (hL : L ≤ 1000000) (hq : x / y = q) (hr : x % y = 0) (hzq : sg (!s') q = zq) :
    Calls Tryd.prog 7 #[.agg #[.bool true, .slice A n c], .agg #[.bool s', .slice A' n' c']] w fun e w' => ∃ t B k d t' B' k' d', e = .returned (.tuple #[.agg #[.bool t, .slice B k d], .agg #[.bool t', .slice B' k' d'], .bool true]) ∧ NI w' t (.slice B k d) zq (max L 2 + 1) ∧ NI w' t' (.slice B' k' d') 0 L' ∧ Below w.heap.size w w' := by
  have HH := Lib.hid (fun W hbW => divmod_qr (W := W) hx hy hy0 hL hq hr hbW)
  have HQ := Lib.hid hzq
  clear hx hy hq hr hzq hy0
  cases s'
  · go_enter Tryd.func7, Tryd.ntmps7
    go_wp2_with fail
    obtain ⟨W, hW, b0, b1, b2, b3, hbW, hsz⟩ := boxes4 w #[.bool true, .slice A n c] #[.bool false, .slice A' n' c'] #[.bool false, .slice none 0 0] #[.bool false, .slice none 0 0] 28 28 28 28
    rw [hW]
    clear hW
    refine ((HH.out W hbW)).mono ?_
    rintro e w1 ⟨B, k, d, B', k', d', rfl, hQ, hR, hb⟩
    have m0 := b0.below hb
    have m1 := b1.below hb
    have m2 := b2.below hb
    have m3 := b3.below hb
    have g0 := m0.cell 0 _ rfl
    have g1 := m1.cell 0 _ rfl
    have hB1 := hbW.trans (hb.mono hbW.size)
    clear b0 b1 b2 b3
    have hQ2 := hQ.more (L' := max L 2 + 1) (by omega)
    have hk0 : k' = 0 := by have h := (Raw.cap hR.1).1; rw [digs_zero] at h; exact h
    subst hk0
    go_wp2_with fail
    refine (signed_v _ hQ2 HQ.out).mono ?_
    rintro e v1 ⟨t, rfl, hI, hc1⟩
    have y0 := m0.below hc1
    have y1 := m1.below hc1
    have y2 := m2.below hc1
    have y3 := m3.below hc1
    have hR1 := NV.below hR hc1
    clear hQ2
    go_wp2_with fail
    refine (signed_v _ hR1 (z := 0) rfl).mono ?_
    rintro e v2 ⟨t', rfl, hI', hc2⟩
    have z0 := y0.below hc2
    have z1 := y1.below hc2
    have z2 := y2.below hc2
    have z3 := y3.below hc2
    have hI2 := hI.below hc2
    clear y0 y1 y2 y3 hI hR1
    have hbT := hB1.trans ((hc1.trans (hc2.mono hc1.size)).mono hB1.size)
    have r0 := z2.cell 0 _ rfl
    have r1 := z2.cell 1 _ rfl
    have f0 := z2.frozen 0
    have f1 := z2.frozen 1
    have r2 := z3.cell 0 _ rfl
    have r3 := z3.cell 1 _ rfl
    have f2 := z3.frozen 0
    have f3 := z3.frozen 1
    have u3 := z3.far (g' := w.heap.size + 1 + 1) (by omega) (.bool t) (.slice B k d)
    have u2 := z2.stored (.bool t) (.slice B k d)
    have x3 := u3.stored (.bool t') (.slice B' 0 d')
    have x2 := u2.far (g' := w.heap.size + 1 + 1 + 1) (by omega) (.bool t') (.slice B' 0 d')
    have hF := (hI2.stored z2 (notInt_box _ _ _ _) (.bool t) (.slice B k d)).stored u3 (notInt_box _ _ _ _) (.bool t') (.slice B' 0 d')
    have hG := (hI'.stored z2 (notInt_box _ _ _ _) (.bool t) (.slice B k d)).stored u3 (notInt_box _ _ _ _) (.bool t') (.slice B' 0 d')
    have hbf := below_stored (g := w.heap.size + 1 + 1 + 1) (below_stored (g := w.heap.size + 1 + 1) hbT (by omega) (.bool t) (.slice B k d)) (by omega) (.bool t') (.slice B' 0 d')
    go_wp2_with fail
    refine bodyPost_ret (ret_int2 rfl rfl rfl x2 x3) rfl ?_
    exact ⟨t, _, _, _, t', _, _, _, rfl, hF, hG, hbf⟩
  · go_enter Tryd.func7, Tryd.ntmps7
    go_wp2_with fail
    obtain ⟨W, hW, b0, b1, b2, b3, hbW, hsz⟩ := boxes4 w #[.bool true, .slice A n c] #[.bool true, .slice A' n' c'] #[.bool false, .slice none 0 0] #[.bool false, .slice none 0 0] 28 28 28 28
    rw [hW]
    clear hW
    refine ((HH.out W hbW)).mono ?_
    rintro e w1 ⟨B, k, d, B', k', d', rfl, hQ, hR, hb⟩
    have m0 := b0.below hb
    have m1 := b1.below hb
    have m2 := b2.below hb
    have m3 := b3.below hb
    have g0 := m0.cell 0 _ rfl
    have g1 := m1.cell 0 _ rfl
    have hB1 := hbW.trans (hb.mono hbW.size)
    clear b0 b1 b2 b3
    have hQ2 := hQ.more (L' := max L 2 + 1) (by omega)
    have hk0 : k' = 0 := by have h := (Raw.cap hR.1).1; rw [digs_zero] at h; exact h
    subst hk0
    go_wp2_with fail
    refine (signed_v _ hQ2 HQ.out).mono ?_
    rintro e v1 ⟨t, rfl, hI, hc1⟩
    have y0 := m0.below hc1
    have y1 := m1.below hc1
    have y2 := m2.below hc1
    have y3 := m3.below hc1
    have hR1 := NV.below hR hc1
    clear hQ2
    go_wp2_with fail
    refine (signed_v _ hR1 (z := 0) rfl).mono ?_
    rintro e v2 ⟨t', rfl, hI', hc2⟩
    have z0 := y0.below hc2
    have z1 := y1.below hc2
    have z2 := y2.below hc2
    have z3 := y3.below hc2
    have hI2 := hI.below hc2
    clear y0 y1 y2 y3 hI hR1
    have hbT := hB1.trans ((hc1.trans (hc2.mono hc1.size)).mono hB1.size)
    have r0 := z2.cell 0 _ rfl
    have r1 := z2.cell 1 _ rfl
    have f0 := z2.frozen 0
    have f1 := z2.frozen 1
    have r2 := z3.cell 0 _ rfl
    have r3 := z3.cell 1 _ rfl
    have f2 := z3.frozen 0
    have f3 := z3.frozen 1
    have u3 := z3.far (g' := w.heap.size + 1 + 1) (by omega) (.bool t) (.slice B k d)
    have u2 := z2.stored (.bool t) (.slice B k d)
    have x3 := u3.stored (.bool t') (.slice B' 0 d')
    have x2 := u2.far (g' := w.heap.size + 1 + 1 + 1) (by omega) (.bool t') (.slice B' 0 d')
    have hF := (hI2.stored z2 (notInt_box _ _ _ _) (.bool t) (.slice B k d)).stored u3 (notInt_box _ _ _ _) (.bool t') (.slice B' 0 d')
    have hG := (hI'.stored z2 (notInt_box _ _ _ _) (.bool t) (.slice B k d)).stored u3 (notInt_box _ _ _ _) (.bool t') (.slice B' 0 d')
    have hbf := below_stored (g := w.heap.size + 1 + 1 + 1) (below_stored (g := w.heap.size + 1 + 1) hbT (by omega) (.bool t) (.slice B k d)) (by omega) (.bool t') (.slice B' 0 d')
    go_wp2_with fail
    refine bodyPost_ret (ret_int2 rfl rfl rfl x2 x3) rfl ?_
    exact ⟨t, _, _, _, t', _, _, _, rfl, hF, hG, hbf⟩
set_option maxRecDepth 100000 in
/-- A negative dividend with a remainder. -/
theorem idivmod_odd {q r : Nat} {zq zr : Int} (hx : RV w (.slice A n c) x L) (hy : RV w (.slice A' n' c') y L') (hy0 : 0 < y) (hL : L ≤ 1000000) (hq : x / y = q) (hr : x % y = r) (hr0 : 0 < r) (hzq : sg (!s') (q + 1) = zq) (hzr : sg false (y - r) = zr) :
    Calls Tryd.prog 7 #[.agg #[.bool true, .slice A n c], .agg #[.bool s', .slice A' n' c']] w fun e w' => ∃ t B k d t' B' k' d', e = .returned (.tuple #[.agg #[.bool t, .slice B k d], .agg #[.bool t', .slice B' k' d'], .bool true]) ∧ NI w' t (.slice B k d) zq (max L 2 + 1) ∧ NI w' t' (.slice B' k' d') zr L' ∧ Below w.heap.size w w' := by
  have HH := Lib.hid (fun W hbW => divmod_qr (W := W) hx hy hy0 hL hq hr hbW)
  have hry : r ≤ y := by rw [← hr]; exact Nat.le_of_lt (Nat.mod_lt _ hy0)
  have HRY := Lib.hid hry
  have HQ := Lib.hid hzq
  have HR := Lib.hid hzr
  have HR0 := Lib.hid hr0
  clear hx hq hr hzq hzr hy0 hr0 hry
  cases s'
  · go_enter Tryd.func7, Tryd.ntmps7
    go_wp2_with fail
    obtain ⟨W, hW, b0, b1, b2, b3, hbW, hsz⟩ := boxes4 w #[.bool true, .slice A n c] #[.bool false, .slice A' n' c'] #[.bool false, .slice none 0 0] #[.bool false, .slice none 0 0] 28 28 28 28
    rw [hW]
    clear hW
    refine ((HH.out W hbW)).mono ?_
    rintro e w1 ⟨B, k, d, B', k', d', rfl, hQ, hR, hb⟩
    have m0 := b0.below hb
    have m1 := b1.below hb
    have m2 := b2.below hb
    have m3 := b3.below hb
    have g0 := m0.cell 0 _ rfl
    have g1 := m1.cell 0 _ rfl
    have hB1 := hbW.trans (hb.mono hbW.size)
    clear b0 b1 b2 b3
    have hk0 : 0 < k' := by rw [(Raw.cap hR.1).1]; exact digs_length_pos HR0.out
    go_wp2_with fail
    refine (fromuint_v 1 (by omega) _).mono ?_
    rintro e w2 ⟨B1, k1, d1, rfl, hO, hb2⟩
    have hR2 := hR.below hb2
    have hQ2 := hQ.below hb2
    have n0 := m0.below hb2
    have n1 := m1.below hb2
    have n2 := m2.below hb2
    have n3 := m3.below hb2
    have hB2 := hB1.trans (hb2.mono hB1.size)
    clear hb2 hR hQ m0 m1 m2 m3 g0 g1
    go_wp2_with fail
    refine (add_v hQ2.rv hO.rv hL (by omega)).mono ?_
    rintro e w3 ⟨B3, k3, d3, rfl, hQ3, hb4⟩
    have hR3 := hR2.below hb4
    have o0 := n0.below hb4
    have o1 := n1.below hb4
    have o2 := n2.below hb4
    have o3 := n3.below hb4
    have g1 := o1.cell 1 _ rfl
    have hB3 := hB2.trans (hb4.mono hB2.size)
    have hy3 := hy.below hB3
    clear hb4 hR2 hQ2 hO n0 n1 n2 n3 hB2
    go_wp2_with fail
    refine (sub_v hy3 hR3.rv HRY.out).mono ?_
    rintro e w4 ⟨B4, k4, d4, rfl, hR4, hb6⟩
    have hQ4 := hQ3.below hb6
    have q0 := o0.below hb6
    have q1 := o1.below hb6
    have q2 := o2.below hb6
    have q3 := o3.below hb6
    have g0 := q0.cell 0 _ rfl
    have hB4 := hB3.trans (hb6.mono hB3.size)
    clear hb6 hR3 hQ3 hy3 o0 o1 o2 o3 g1
    go_wp2_with fail
    refine (signed_v _ hQ4 HQ.out).mono ?_
    rintro e v1 ⟨t, rfl, hI, hc1⟩
    have y0 := q0.below hc1
    have y1 := q1.below hc1
    have y2 := q2.below hc1
    have y3 := q3.below hc1
    have hR1 := NV.below hR4 hc1
    clear hQ4
    go_wp2_with fail
    refine (signed_v _ hR1 HR.out).mono ?_
    rintro e v2 ⟨t', rfl, hI', hc2⟩
    have z0 := y0.below hc2
    have z1 := y1.below hc2
    have z2 := y2.below hc2
    have z3 := y3.below hc2
    have hI2 := hI.below hc2
    clear y0 y1 y2 y3 hI hR1
    have hbT := hB4.trans ((hc1.trans (hc2.mono hc1.size)).mono hB4.size)
    have r0 := z2.cell 0 _ rfl
    have r1 := z2.cell 1 _ rfl
    have f0 := z2.frozen 0
    have f1 := z2.frozen 1
    have r2 := z3.cell 0 _ rfl
    have r3 := z3.cell 1 _ rfl
    have f2 := z3.frozen 0
    have f3 := z3.frozen 1
    have u3 := z3.far (g' := w.heap.size + 1 + 1) (by omega) (.bool t) (.slice B3 k3 d3)
    have u2 := z2.stored (.bool t) (.slice B3 k3 d3)
    have x3 := u3.stored (.bool t') (.slice B4 k4 d4)
    have x2 := u2.far (g' := w.heap.size + 1 + 1 + 1) (by omega) (.bool t') (.slice B4 k4 d4)
    have hF := (hI2.stored z2 (notInt_box _ _ _ _) (.bool t) (.slice B3 k3 d3)).stored u3 (notInt_box _ _ _ _) (.bool t') (.slice B4 k4 d4)
    have hG := (hI'.stored z2 (notInt_box _ _ _ _) (.bool t) (.slice B3 k3 d3)).stored u3 (notInt_box _ _ _ _) (.bool t') (.slice B4 k4 d4)
    have hbf := below_stored (g := w.heap.size + 1 + 1 + 1) (below_stored (g := w.heap.size + 1 + 1) hbT (by omega) (.bool t) (.slice B3 k3 d3)) (by omega) (.bool t') (.slice B4 k4 d4)
    go_wp2_with fail
    refine bodyPost_ret (ret_int2 rfl rfl rfl x2 x3) rfl ?_
    exact ⟨t, _, _, _, t', _, _, _, rfl, hF, hG, hbf⟩
  · go_enter Tryd.func7, Tryd.ntmps7
    go_wp2_with fail
    obtain ⟨W, hW, b0, b1, b2, b3, hbW, hsz⟩ := boxes4 w #[.bool true, .slice A n c] #[.bool true, .slice A' n' c'] #[.bool false, .slice none 0 0] #[.bool false, .slice none 0 0] 28 28 28 28
    rw [hW]
    clear hW
    refine ((HH.out W hbW)).mono ?_
    rintro e w1 ⟨B, k, d, B', k', d', rfl, hQ, hR, hb⟩
    have m0 := b0.below hb
    have m1 := b1.below hb
    have m2 := b2.below hb
    have m3 := b3.below hb
    have g0 := m0.cell 0 _ rfl
    have g1 := m1.cell 0 _ rfl
    have hB1 := hbW.trans (hb.mono hbW.size)
    clear b0 b1 b2 b3
    have hk0 : 0 < k' := by rw [(Raw.cap hR.1).1]; exact digs_length_pos HR0.out
    go_wp2_with fail
    refine (fromuint_v 1 (by omega) _).mono ?_
    rintro e w2 ⟨B1, k1, d1, rfl, hO, hb2⟩
    have hR2 := hR.below hb2
    have hQ2 := hQ.below hb2
    have n0 := m0.below hb2
    have n1 := m1.below hb2
    have n2 := m2.below hb2
    have n3 := m3.below hb2
    have hB2 := hB1.trans (hb2.mono hB1.size)
    clear hb2 hR hQ m0 m1 m2 m3 g0 g1
    go_wp2_with fail
    refine (add_v hQ2.rv hO.rv hL (by omega)).mono ?_
    rintro e w3 ⟨B3, k3, d3, rfl, hQ3, hb4⟩
    have hR3 := hR2.below hb4
    have o0 := n0.below hb4
    have o1 := n1.below hb4
    have o2 := n2.below hb4
    have o3 := n3.below hb4
    have g1 := o1.cell 1 _ rfl
    have hB3 := hB2.trans (hb4.mono hB2.size)
    have hy3 := hy.below hB3
    clear hb4 hR2 hQ2 hO n0 n1 n2 n3 hB2
    go_wp2_with fail
    refine (sub_v hy3 hR3.rv HRY.out).mono ?_
    rintro e w4 ⟨B4, k4, d4, rfl, hR4, hb6⟩
    have hQ4 := hQ3.below hb6
    have q0 := o0.below hb6
    have q1 := o1.below hb6
    have q2 := o2.below hb6
    have q3 := o3.below hb6
    have g0 := q0.cell 0 _ rfl
    have hB4 := hB3.trans (hb6.mono hB3.size)
    clear hb6 hR3 hQ3 hy3 o0 o1 o2 o3 g1
    go_wp2_with fail
    refine (signed_v _ hQ4 HQ.out).mono ?_
    rintro e v1 ⟨t, rfl, hI, hc1⟩
    have y0 := q0.below hc1
    have y1 := q1.below hc1
    have y2 := q2.below hc1
    have y3 := q3.below hc1
    have hR1 := NV.below hR4 hc1
    clear hQ4
    go_wp2_with fail
    refine (signed_v _ hR1 HR.out).mono ?_
    rintro e v2 ⟨t', rfl, hI', hc2⟩
    have z0 := y0.below hc2
    have z1 := y1.below hc2
    have z2 := y2.below hc2
    have z3 := y3.below hc2
    have hI2 := hI.below hc2
    clear y0 y1 y2 y3 hI hR1
    have hbT := hB4.trans ((hc1.trans (hc2.mono hc1.size)).mono hB4.size)
    have r0 := z2.cell 0 _ rfl
    have r1 := z2.cell 1 _ rfl
    have f0 := z2.frozen 0
    have f1 := z2.frozen 1
    have r2 := z3.cell 0 _ rfl
    have r3 := z3.cell 1 _ rfl
    have f2 := z3.frozen 0
    have f3 := z3.frozen 1
    have u3 := z3.far (g' := w.heap.size + 1 + 1) (by omega) (.bool t) (.slice B3 k3 d3)
    have u2 := z2.stored (.bool t) (.slice B3 k3 d3)
    have x3 := u3.stored (.bool t') (.slice B4 k4 d4)
    have x2 := u2.far (g' := w.heap.size + 1 + 1 + 1) (by omega) (.bool t') (.slice B4 k4 d4)
    have hF := (hI2.stored z2 (notInt_box _ _ _ _) (.bool t) (.slice B3 k3 d3)).stored u3 (notInt_box _ _ _ _) (.bool t') (.slice B4 k4 d4)
    have hG := (hI'.stored z2 (notInt_box _ _ _ _) (.bool t) (.slice B3 k3 d3)).stored u3 (notInt_box _ _ _ _) (.bool t') (.slice B4 k4 d4)
    have hbf := below_stored (g := w.heap.size + 1 + 1 + 1) (below_stored (g := w.heap.size + 1 + 1) hbT (by omega) (.bool t) (.slice B3 k3 d3)) (by omega) (.bool t') (.slice B4 k4 d4)
    go_wp2_with fail
    refine bodyPost_ret (ret_int2 rfl rfl rfl x2 x3) rfl ?_
    exact ⟨t, _, _, _, t', _, _, _, rfl, hF, hG, hbf⟩
/-- What quotient and remainder are. -/
def QR (z z' zq zr : Int) : Prop := z = zq * z' + zr ∧ 0 ≤ zr ∧ zr < z'.natAbs
theorem qr_pos {x y : Nat} (s' : Bool) (hy0 : 0 < y) : QR (sg false x) (sg s' y) (sg s' (x / y)) (sg false (x % y)) := by
  have h := Nat.div_add_mod x y
  have h2 := Nat.mod_lt x hy0
  refine ⟨?_, by rw [sg_false]; exact Int.natCast_nonneg _, by rw [sg_abs, sg_false]; omega⟩
  cases s' <;> simp only [sg_true, sg_false, Int.neg_mul_neg] <;> rw [← Int.natCast_mul, Nat.mul_comm (x / y) y, ← Int.natCast_add, h]
theorem qr_even {x y : Nat} (s' : Bool) (hy0 : 0 < y) (hr : x % y = 0) : QR (sg true x) (sg s' y) (sg (!s') (x / y)) 0 := by
  have h := Nat.div_add_mod x y
  rw [hr, Nat.add_zero] at h
  refine ⟨?_, by omega, by rw [sg_abs]; omega⟩
  cases s' <;> simp only [sg_true, sg_false, Bool.not_true, Bool.not_false, Int.neg_mul, Int.mul_neg, Int.add_zero] <;> rw [← Int.natCast_mul, Nat.mul_comm (x / y) y, h]
theorem qr_odd {x y : Nat} (s' : Bool) (hy0 : 0 < y) (hr : 0 < x % y) : QR (sg true x) (sg s' y) (sg (!s') (x / y + 1)) (sg false (y - x % y)) := by
  have h := Nat.div_add_mod x y
  have h2 := Nat.mod_lt x hy0
  refine ⟨?_, by rw [sg_false]; exact Int.natCast_nonneg _, by rw [sg_abs, sg_false]; omega⟩
  have e : ((x / y + 1 : Nat) : Int) * (y : Int) = (x : Int) + (y - x % y : Nat) := by
    rw [← Int.natCast_mul, Nat.add_mul, Nat.one_mul, Nat.mul_comm (x / y) y]; omega
  cases s' <;> simp only [sg_true, sg_false, Bool.not_true, Bool.not_false, Int.neg_mul, Int.mul_neg] <;> rw [e] <;> omega
theorem idivmod_v (h : RI w s (.slice A n c) z L) (h' : RI w s' (.slice A' n' c') z' L') (h0 : z' ≠ 0) (hL : L ≤ 1000000) :
    Calls Tryd.prog 7 #[.agg #[.bool s, .slice A n c], .agg #[.bool s', .slice A' n' c']] w fun e w' => ∃ zq zr t B k d t' B' k' d', e = .returned (.tuple #[.agg #[.bool t, .slice B k d], .agg #[.bool t', .slice B' k' d'], .bool true]) ∧ NI w' t (.slice B k d) zq (max L 2 + 1) ∧ NI w' t' (.slice B' k' d') zr L' ∧ QR z z' zq zr ∧ Below w.heap.size w w' := by
  obtain ⟨x, hx, rfl⟩ := h
  obtain ⟨y, hy, rfl⟩ := h'
  have hy0 : 0 < y := by rcases Nat.eq_zero_or_pos y with rfl | h; · exact absurd (by cases s' <;> rfl) h0
                         · exact h
  cases s
  · refine (idivmod_pos (s' := s') hx hy hy0 hL rfl rfl rfl rfl).mono ?_
    rintro e w' ⟨t, B, k, d, t', B', k', d', he, h1, h2, hb⟩
    exact ⟨_, _, t, B, k, d, t', B', k', d', he, h1, h2, qr_pos s' hy0, hb⟩
  · rcases Nat.eq_zero_or_pos (x % y) with hr | hr
    · refine (idivmod_even (s' := s') hx hy hy0 hL rfl hr rfl).mono ?_
      rintro e w' ⟨t, B, k, d, t', B', k', d', he, h1, h2, hb⟩
      exact ⟨_, _, t, B, k, d, t', B', k', d', he, h1, h2, qr_even s' hy0 hr, hb⟩
    · refine (idivmod_odd (s' := s') hx hy hy0 hL rfl rfl hr rfl rfl).mono ?_
      rintro e w' ⟨t, B, k, d, t', B', k', d', he, h1, h2, hb⟩
      exact ⟨_, _, t, B, k, d, t', B', k', d', he, h1, h2, qr_odd s' hy0 hr, hb⟩
end
theorem wrap_pos {m : Int} (h0 : 0 ≤ m) (h : m < 9223372036854775808) : IntKind.u64.wrap m = m := by
  simp [IntKind.wrap, IntKind.bits, IntKind.signed]; omega
set_option maxRecDepth 100000 in
theorem ifromint_pos (m : Nat) (hm : m < 9223372036854775808) (w : World) :
    Calls Tryd.prog 45 #[.int .i64 (m : Int)] w fun e w' => ∃ t B k d, e = .returned (.agg #[.bool t, .slice B k d]) ∧ NI w' t (.slice B k d) (m : Int) 2 ∧ Below w.heap.size w w' := by
  have hw := wrap_pos (m := (m : Int)) (by omega) (by omega)
  have hm2 : m < 18446744073709551616 := by omega
  go_enter Tryd.func45, Tryd.ntmps45
  go_wp2_with fail
  obtain ⟨W, hW, b0, hbW, hsz⟩ := boxes1 w #[.bool false, .slice none 0 0] 28
  rw [hW]
  refine (fromuint_v m hm2 _).mono ?_
  rintro e w1 ⟨B, k, d, rfl, hN, hb⟩
  have q0 := b0.below hb
  clear hW
  go_wp2_with fail
  refine (signed_v _ hN (z := (m : Int)) rfl).mono ?_
  rintro e w2 ⟨t, rfl, hI, hb2⟩
  have p0 := q0.below hb2
  have r0 := p0.cell 0 _ rfl
  have r1 := p0.cell 1 _ rfl
  have f0 := p0.frozen 0
  have f1 := p0.frozen 1
  have hbT := hbW.trans ((hb.trans (hb2.mono hb.size)).mono hbW.size)
  have hI2 := hI.stored p0 (notInt_box _ _ _ _) (.bool t) (.slice B k d)
  have hbf := below_stored (g := w.heap.size) hbT (by omega) (.bool t) (.slice B k d)
  have hbx := p0.stored (.bool t) (.slice B k d)
  clear b0 q0
  go_wp2_with fail
  refine bodyPost_ret (ret_int rfl rfl hbx) rfl ?_
  exact ⟨t, B, k, d, rfl, hI2, hbf⟩
set_option maxRecDepth 100000 in
theorem ifromint_neg (m : Nat) (hm : m ≤ 9223372036854775808) (hm0 : 0 < m) (w : World) :
    Calls Tryd.prog 45 #[.int .i64 (-(m : Int))] w fun e w' => ∃ t B k d, e = .returned (.agg #[.bool t, .slice B k d]) ∧ NI w' t (.slice B k d) (-(m : Int)) 2 ∧ Below w.heap.size w w' := by
  have hm2 : m < 18446744073709551616 := by omega
  have hw : IntKind.u64.wrap (-(m : Int)) = 18446744073709551616 - (m : Int) := by simp [IntKind.wrap, IntKind.bits, IntKind.signed]; omega
  have hw2 : IntKind.u64.wrap (-(18446744073709551616 - (m : Int))) = (m : Int) := by simp [IntKind.wrap, IntKind.bits, IntKind.signed]; omega
  go_enter Tryd.func45, Tryd.ntmps45
  go_wp2_with fail
  obtain ⟨W, hW, b0, hbW, hsz⟩ := boxes1 w #[.bool false, .slice none 0 0] 28
  rw [hW]
  refine (fromuint_v m hm2 _).mono ?_
  rintro e w1 ⟨B, k, d, rfl, hN, hb⟩
  have q0 := b0.below hb
  clear hW
  go_wp2_with fail
  refine (signed_v _ hN (z := (-(m : Int))) rfl).mono ?_
  rintro e w2 ⟨t, rfl, hI, hb2⟩
  have p0 := q0.below hb2
  have r0 := p0.cell 0 _ rfl
  have r1 := p0.cell 1 _ rfl
  have f0 := p0.frozen 0
  have f1 := p0.frozen 1
  have hbT := hbW.trans ((hb.trans (hb2.mono hb.size)).mono hbW.size)
  have hI2 := hI.stored p0 (notInt_box _ _ _ _) (.bool t) (.slice B k d)
  have hbf := below_stored (g := w.heap.size) hbT (by omega) (.bool t) (.slice B k d)
  have hbx := p0.stored (.bool t) (.slice B k d)
  clear b0 q0
  go_wp2_with fail
  refine bodyPost_ret (ret_int rfl rfl hbx) rfl ?_
  exact ⟨t, B, k, d, rfl, hI2, hbf⟩
theorem ifromint_v (z : Int) (h0 : -9223372036854775808 ≤ z) (h1 : z ≤ 9223372036854775807) (w : World) :
    Calls Tryd.prog 45 #[.int .i64 z] w fun e w' => ∃ t B k d, e = .returned (.agg #[.bool t, .slice B k d]) ∧ NI w' t (.slice B k d) z 2 ∧ Below w.heap.size w w' := by
  rcases Int.lt_trichotomy z 0 with h | h | h
  · obtain ⟨m, rfl⟩ : ∃ m : Nat, z = -(m : Int) := ⟨z.natAbs, by omega⟩
    exact ifromint_neg m (by omega) (by omega) w
  · obtain ⟨m, rfl⟩ : ∃ m : Nat, z = (m : Int) := ⟨z.natAbs, by omega⟩
    exact ifromint_pos m (by omega) w
  · obtain ⟨m, rfl⟩ : ∃ m : Nat, z = (m : Int) := ⟨z.natAbs, by omega⟩
    exact ifromint_pos m (by omega) w
end Go.Proofs.YtkhfadfjkmhpgaaDoor
namespace Go.Proofs.YtkhfadfjkmhpgaaDoor
open Go.RowKit

section
variable {A A' : Option Addr} {n n' c c' x y L L' : Nat} {s s' : Bool} {z z' : Int} {w : World}
theorem info_intN : (Tryd.prog.info? 32).map (·.size) = some 2 := by kernel_rfl
theorem ret_intN {fn : Func} {p : Tmp} (h : fn.results = #[.cell p 32]) {tmps : Array Value} {w : World} {g : Nat} {a b : Value} {t : TypeId} (hp : tmps.getD p undef = .pointer (some ⟨g, 0, none⟩)) (hb : Box w g #[a, b] t) :
    (results fn tmps).run Tryd.prog w = .ok (.agg #[a, b]) w :=
  results_cell_row h tmps w g t #[a, b] (0, 0) _ hp hb Tryd.underlying32 rfl info_intN
theorem Box.other {w w' : World} {g b : Nat} {cs : Array Value} {t : TypeId} (h : Box w g cs t) (hg : w.grownBy w' (some b)) (hne : g ≠ b) : Box w' g cs t :=
  (hg.block g h.lt (by intro e; injection e with e; exact hne e)).trans h
theorem GV.weak {w : World} {b b' : Nat} {v : Value} {x L : Nat} (h : GV w b v x L) (hb : b' ≤ b) : GV w b' v x L := by
  obtain ⟨B, ds, h1, h2⟩ := h; exact ⟨B, ds, by omega, h2⟩
theorem nmake_any (s : Bool) (h : NV w (.slice A n c) x L) :
    Calls Tryd.prog 23 #[.bool s, .slice A n c] w fun e w' => e = .returned (.agg #[.bool (decide (sg s x < 0)), .slice A n c]) ∧ Below w.heap.size w w' := by
  have hn := (Raw.cap h.1).1
  rw [sg_neg]
  rcases Nat.eq_zero_or_pos x with rfl | h0
  · have hn0 : n = 0 := by rw [digs_zero] at hn; exact hn
    subst hn0
    clear h hn
    cases s
    all_goals
      go_enter Tryd.func23, Tryd.ntmps23
      go_wp2_with fail
      go_returns
      exact ⟨rfl, below_alloc w _⟩
  · have hnp : 0 < n := by rw [hn]; exact digs_length_pos h0
    have hd : decide (0 < x) = true := decide_eq_true h0
    rw [hd]
    clear h hn hd h0
    cases s
    all_goals
      go_enter Tryd.func23, Tryd.ntmps23
      go_wp2_with fail
      go_returns
      exact ⟨rfl, below_alloc w _⟩
theorem nmake_v (s : Bool) (h : NV w (.slice A n c) x L) (hz : sg s x = z) :
    Calls Tryd.prog 23 #[.bool s, .slice A n c] w fun e w' => ∃ t, e = .returned (.agg #[.bool t, .slice A n c]) ∧ NI w' t (.slice A n c) z L ∧ Below w.heap.size w w' := by
  refine (nmake_any s h).mono ?_
  rintro e w' ⟨rfl, hb⟩
  subst hz
  exact ⟨_, rfl, ⟨by rw [sg_abs]; exact h.below hb, rfl⟩, hb⟩
set_option maxRecDepth 100000 in
theorem tapeint_v {b : Nat} (m : Nat) (hm : m ≤ 1000) (h : Tape w b) (hb : b < w.heap.size) :
    Calls Tryd.prog 24 #[.pointer (some ⟨b, 0, none⟩), .int .i64 (m : Int)] w fun e w' => ∃ t x B k d, e = .returned (.agg #[.bool t, .slice B k d]) ∧ NV w' (.slice B k d) x m ∧ Tape w' b ∧ w.grownBy w' (some b) := by
  go_enter Tryd.func24, Tryd.ntmps24
  go_wp2_with fail
  obtain ⟨W, hW, b0, hbW, hsz⟩ := boxes1 w #[.bool false, .slice none 0 0] 32
  rw [hW]
  have gW : w.grownBy W (some b) := only_below ⟨rfl, rfl, rfl, Nat.le_refl _, fun _ _ _ => rfl⟩ hbW (Nat.le_refl _)
  clear hW
  refine (next_any 2 (by omega) (by omega) (h.keep hbW hb)).mono ?_
  rintro e w1 ⟨r, rfl, hr, ht, hg⟩
  have b1 := b0.other hg (by omega)
  have g1 := only_trans gW hg
  have hlt := Nat.lt_of_lt_of_le hb g1.size
  clear b0 hg
  go_wp2_with fail
  refine (tapenat_v m hm ht hlt).mono ?_
  rintro e w2 ⟨x, B, k, d, rfl, hX, ht2, hg2⟩
  have b2 := b1.other hg2 (by omega)
  have g2 := only_trans g1 hg2
  have hlt2 := Nat.lt_of_lt_of_le hb g2.size
  have hs2 := g2.size
  clear b1 hg2 g1
  go_wp2_with fail
  refine (nmake_any _ hX).mono ?_
  rintro e w3 ⟨rfl, hb3⟩
  generalize decide (sg ((r : Int) == 1) x < 0) = t
  have p0 := b2.below hb3
  have r0 := p0.cell 0 _ rfl
  have r1 := p0.cell 1 _ rfl
  have f0 := p0.frozen 0
  have f1 := p0.frozen 1
  have hX3 := hX.below hb3
  have ht3 := ht2.keep hb3 hlt2
  have g3 := only_below g2 hb3 hs2
  have hI2 := hX3.stored p0 (notInt_box _ _ _ _) (.bool t) (.slice B k d)
  have hbs := below_stored (Below.refl w.heap.size w3) (Nat.le_refl _) (.bool t) (.slice B k d)
  have htf := ht3.keep hbs hb
  have hgf := only_below g3 hbs (Nat.le_refl _)
  have hbx := p0.stored (.bool t) (.slice B k d)
  clear b2 hX ht2 g2 g3 ht3 ht hbs
  go_wp2_with fail
  refine bodyPost_ret (ret_intN rfl rfl hbx) rfl ?_
  exact ⟨t, x, B, k, d, rfl, hI2, htf, hgf⟩
theorem drawn_below (w : World) : Below w.heap.size w w.drew := (below_drewN (Below.refl _ w) 1)
/-- A number is kept where only the tape is written. -/
theorem NV.other {w w' : World} {v : Value} {x L b : Nat} (h : NV w v x L) (ht : Tape w b) (hg : w.grownBy w' (some b)) : NV w' v x L := by
  obtain ⟨A, n, c, t, h1, _⟩ := ht
  exact ⟨Raw.keepBut h.1 hg (Raw.apart h.1 (cs := #[.slice A n c, .int .i64 (t : Int)]) h1 (by simp [notInt])), h.2⟩
set_option maxRecDepth 100000 in
set_option maxHeartbeats 3200000 in
/-- The absolute value and the sign that made takes. -/
theorem made_v {b : Nat} (h : Tape w b) (hb : b < w.heap.size) :
    Calls Tryd.prog 5 #[.pointer (some ⟨b, 0, none⟩)] w fun e w' => ∃ z t B k d, e = .returned (.agg #[.bool t, .slice B k d]) ∧ GI w' b t (.slice B k d) z 6 ∧ Tape w' b ∧ w.grownBy w' (some b) := by
  go_enter Tryd.func5, Tryd.ntmps5
  go_wp2_with fail
  obtain ⟨W, hW, b0, hbW, hsz⟩ := boxes1 w #[.bool false, .slice none 0 0] 28
  rw [hW]
  have gW : w.grownBy W (some b) := only_below ⟨rfl, rfl, rfl, Nat.le_refl _, fun _ _ _ => rfl⟩ hbW (Nat.le_refl _)
  clear hW
  refine (tapeint_v 4 (by omega) (h.keep hbW hb) (by omega)).mono ?_
  rintro e w1 ⟨t, x, B, k, d, rfl, hX, ht, hg⟩
  have b1 := b0.other hg (by omega)
  have g1 := only_trans gW hg
  have hlt := Nat.lt_of_lt_of_le hb g1.size
  have hs1 := g1.size
  have hsw := b1.lt
  clear b0 hg gW hbW
  cases t
  · rcases Nat.eq_zero_or_pos k with rfl | hk
    · go_wp2_with fail
      obtain ⟨W2, hW2, c0, hb2, hsz2⟩ := boxes1 w1 #[.bool false, .slice B 0 d] 32
      rw [hW2]
      clear hW2
      have b2 := b1.below hb2
      have hT2 := ht.keep hb2 hlt
      have hX2 := hX.below hb2
      have G2 := only_below g1 hb2 hs1
      have hs2 := G2.size
      go_region_held3 (fun V => V.cell? ⟨w1.heap.size, 0, none⟩ = some (.bool false) ∧ V.cell? ⟨w1.heap.size, 1, none⟩ = some (.slice B 0 d)) (first | exact ⟨c0.cell 0 _ rfl, c0.cell 1 _ rfl⟩ | exact HC | exact KC | exact LC | exact ⟨(u0.far (by omega) _ _).cell 0 _ rfl, (u0.far (by omega) _ _).cell 1 _ rfl⟩ | go_keep)
        (first
          | (go_at_call 25; refine (next_any 3 (by omega) (by omega) hT3).mono ?_; rintro e w4 ⟨r3, rfl, hr3, hT4, hg4⟩; have p0 := q0.other hg4 (by omega); have P0 := Q0.other hg4 (by omega); have KC := And.intro (p0.cell 0 _ rfl) (p0.cell 1 _ rfl); have G4 := only_trans G3 hg4; have hlt4 := Nat.lt_of_lt_of_le hb G4.size; have hX4 := NV.other hX3 hT3 hg4; have hs4 := G4.size; have hsr := P0.lt)
          | (go_at_call 25; refine (next_any (w := W2.drew) 2 (by omega) (by omega) hT2).mono ?_; rintro e w3 ⟨r2, rfl, hr2, hT3, hg3⟩; have q0 := c0.other (w := W2.drew) hg3 (by omega); have Q0 := b2.other (w := W2.drew) hg3 (by omega); have HC := And.intro (q0.cell 0 _ rfl) (q0.cell 1 _ rfl); have G3 := only_trans (only_below G2 (drawn_below _) hs2) hg3; have hlt3 := Nat.lt_of_lt_of_le hb G3.size; have hX3 := NV.other (w := W2.drew) hX2 hT2 hg3)
          | (go_at_call 26; refine (nats_v (b := w.heap.size) hX4 r3 (by omega) hsr (by omega)).mono ?_; rintro e w5 ⟨B5, k5, d5, rfl, hV, hb5⟩; have u0 := p0.below hb5; have U0 := P0.below hb5; have LC := And.intro (u0.cell 0 _ rfl) (u0.cell 1 _ rfl); have r0 := U0.cell 0 _ rfl; have r1 := U0.cell 1 _ rfl; have f0 := U0.frozen 0; have f1 := U0.frozen 1; have hT5 := hT4.keep hb5 hlt4; have G5 := only_below G4 hb5 hs4))
      have hbs := below_stored (Below.refl w.heap.size w5) (Nat.le_refl _) (.bool ((r2 : Int) == 1)) (.slice B5 k5 d5)
      have hVf := (hV.other (only_store w5 w.heap.size (.bool ((r2 : Int) == 1)) (.slice B5 k5 d5))).weak (Nat.le_of_lt hb)
      have htf := hT5.keep hbs hb
      have hgf := only_below G5 hbs (Nat.le_refl _)
      have hbx := U0.stored (.bool ((r2 : Int) == 1)) (.slice B5 k5 d5)
      go_wp2_with fail
      refine bodyPost_ret (ret_int rfl rfl hbx) rfl ?_
      exact ⟨_, _, B5, k5, d5, rfl, ⟨x, hVf, rfl⟩, htf, hgf⟩
    · have hkn : ¬ k = 0 := by omega
      have hkz : ¬ (k : Int) = 0 := by omega
      have hkb : ((k : Int) == 0) = false := by rw [beq_eq_false_iff_ne]; omega
      go_wp2_with fail
      obtain ⟨W2, hW2, c0, hb2, hsz2⟩ := boxes1 w1 #[.bool false, .slice B k d] 32
      rw [hW2]
      clear hW2
      have b2 := b1.below hb2
      have hT2 := ht.keep hb2 hlt
      have hX2 := hX.below hb2
      have G2 := only_below g1 hb2 hs1
      have hs2 := G2.size
      refine wp_region_noPanic ?_
      refine wp_region_held_drew (S := (fun V => V.cell? ⟨w1.heap.size, 0, none⟩ = some (.bool false) ∧ V.cell? ⟨w1.heap.size, 1, none⟩ = some (.slice B k d))) (by kernel_rfl) ?_ (fun hHeld => ?_)
      · exact ⟨c0.cell 0 _ rfl, c0.cell 1 _ rfl⟩
      refine wpAnyH_take (i := 0) (v := ?_) rfl (by kernel_rfl) (by kernel_rfl) (by kernel_rfl) (fun _ _ _ h => h) (Or.inl ⟨by rfl, ?_⟩) (by assumption) ?_
      rotate_left
      · (intro w hSw; (try dsimp only at hSw); go_simp; (try with_reducible rfl))
      simp only [List.getElem_toArray, List.getElem_cons_zero, Act.put, List.setIfInBounds_toArray, List.set_cons_zero, List.set_cons_succ]
      refine wpAnyH_take (i := 1) (v := ?_) rfl (by kernel_rfl) (by kernel_rfl) (by kernel_rfl) (fun _ _ _ h => h) (Or.inl ⟨by rfl, ?_⟩) (by assumption) ?_
      rotate_left
      · (intro w hSw; (try dsimp only at hSw); go_simp; (try with_reducible rfl))
      simp only [List.getElem_toArray, List.getElem_cons_succ, List.getElem_cons_zero, Act.put, List.setIfInBounds_toArray, List.set_cons_zero, List.set_cons_succ]
      refine wpAnyH_take (i := 2) (v := ?_) rfl (by kernel_rfl) (by kernel_rfl) (by kernel_rfl) (fun _ _ _ h => h) (Or.inl ⟨by rfl, ?_⟩) (by assumption) ?_
      rotate_left
      · (intro w hSw; (try dsimp only at hSw); go_simp; (try with_reducible rfl))
      simp only [List.getElem_toArray, List.getElem_cons_succ, List.getElem_cons_zero, Act.put, List.setIfInBounds_toArray, List.set_cons_zero, List.set_cons_succ]
      refine wpAnyH_take (i := 3) (v := ?_) rfl (by kernel_rfl) (by kernel_rfl) (by kernel_rfl) (fun _ _ _ h => h) (Or.inl ⟨by rfl, ?_⟩) (by assumption) ?_
      rotate_left
      · (intro w hSw; (try dsimp only at hSw); go_simp; (try with_reducible rfl))
      simp only [List.getElem_toArray, List.getElem_cons_succ, List.getElem_cons_zero, Act.put, List.setIfInBounds_toArray, List.set_cons_zero, List.set_cons_succ]
      refine wpAnyH_take (i := 4) (v := ?_) rfl (by kernel_rfl) (by kernel_rfl) (by kernel_rfl) (fun _ _ _ h => h) (Or.inl ⟨by rfl, ?_⟩) (by assumption) ?_
      rotate_left
      · (intro w hSw; (try dsimp only at hSw); go_simp; (try with_reducible rfl))
      simp only [List.getElem_toArray, List.getElem_cons_succ, List.getElem_cons_zero, Act.put, List.setIfInBounds_toArray, List.set_cons_zero, List.set_cons_succ]
      refine wpAnyH_take (i := 5) (v := ?_) rfl (by kernel_rfl) (by kernel_rfl) (by kernel_rfl) (fun _ _ _ h => h) (Or.inl ⟨by rfl, ?_⟩) (by assumption) ?_
      rotate_left
      · (intro w hSw; (try dsimp only at hSw); go_simp; (try with_reducible rfl))
      simp only [List.getElem_toArray, List.getElem_cons_succ, List.getElem_cons_zero, Act.put, List.setIfInBounds_toArray, List.set_cons_zero, List.set_cons_succ]
      refine wpAnyH_take (i := 6) (v := ?_) rfl (by kernel_rfl) (by kernel_rfl) (by kernel_rfl) (fun _ _ _ h => h) (Or.inl ⟨by rfl, ?_⟩) (by assumption) ?_
      rotate_left
      · (intro w hSw; (try dsimp only at hSw); go_simp; (try with_reducible rfl))
      simp only [List.getElem_toArray, List.getElem_cons_succ, List.getElem_cons_zero, Act.put, List.setIfInBounds_toArray, List.set_cons_zero, List.set_cons_succ]
      refine wpAnyH_take (i := 7) (v := ?_) rfl (by kernel_rfl) (by kernel_rfl) (by kernel_rfl) (fun _ _ _ h => h) (Or.inl ⟨by rfl, ?_⟩) (by assumption) ?_
      rotate_left
      · (intro w hSw; (try dsimp only at hSw); go_simp; (try with_reducible rfl))
      simp only [List.getElem_toArray, List.getElem_cons_succ, List.getElem_cons_zero, Act.put, List.setIfInBounds_toArray, List.set_cons_zero, List.set_cons_succ]
      refine wpAnyH_take (i := 8) (v := undef) rfl (by kernel_rfl) (by kernel_rfl) (by kernel_rfl) (fun _ _ _ h => h) (Or.inr ⟨by rfl, rfl⟩) (by assumption) ?_
      simp only [List.getElem_toArray, List.getElem_cons_succ, List.getElem_cons_zero, Act.put, List.setIfInBounds_toArray, List.set_cons_zero, List.set_cons_succ]
      refine wpAnyH_take (i := 9) (v := undef) rfl (by kernel_rfl) (by kernel_rfl) (by kernel_rfl) (fun _ _ _ h => h) (Or.inr ⟨by rfl, rfl⟩) (by assumption) ?_
      simp only [List.getElem_toArray, List.getElem_cons_succ, List.getElem_cons_zero, Act.put, List.setIfInBounds_toArray, List.set_cons_zero, List.set_cons_succ]
      refine wpAnyH_take (i := 10) (v := undef) rfl (by kernel_rfl) (by kernel_rfl) (by kernel_rfl) (fun _ _ _ h => h) (Or.inr ⟨by rfl, rfl⟩) (by assumption) ?_
      simp only [List.getElem_toArray, List.getElem_cons_succ, List.getElem_cons_zero, Act.put, List.setIfInBounds_toArray, List.set_cons_zero, List.set_cons_succ]
      refine wpAnyH_take (i := 11) (v := ?_) rfl (by kernel_rfl) (by kernel_rfl) (by kernel_rfl) (fun _ _ _ h => h) (Or.inl ⟨by rfl, ?_⟩) (by assumption) ?_
      rotate_left
      · (intro w hSw; (try dsimp only at hSw); go_simp; (try with_reducible rfl))
      simp only [List.getElem_toArray, List.getElem_cons_succ, List.getElem_cons_zero, Act.put, List.setIfInBounds_toArray, List.set_cons_zero, List.set_cons_succ]
      refine wpAnyH_take (i := 12) (v := ?_) rfl (by kernel_rfl) (by kernel_rfl) (by kernel_rfl) (fun _ _ _ h => h) (Or.inl ⟨by rfl, ?_⟩) (by assumption) ?_
      rotate_left
      · (intro w hSw; (try dsimp only at hSw); go_simp; (try with_reducible rfl))
      simp only [List.getElem_toArray, List.getElem_cons_succ, List.getElem_cons_zero, Act.put, List.setIfInBounds_toArray, List.set_cons_zero, List.set_cons_succ]
      refine wpAnyH_take (i := 13) (v := ?_) rfl (by kernel_rfl) (by kernel_rfl) (by kernel_rfl) (fun _ _ _ h => h) (Or.inl ⟨by rfl, ?_⟩) (by assumption) ?_
      rotate_left
      · (intro w hSw; (try dsimp only at hSw); go_simp; (try with_reducible rfl))
      simp only [List.getElem_toArray, List.getElem_cons_succ, List.getElem_cons_zero, Act.put, List.setIfInBounds_toArray, List.set_cons_zero, List.set_cons_succ]
      refine wpAnyH_take (i := 14) (v := ?_) rfl (by kernel_rfl) (by kernel_rfl) (by kernel_rfl) (fun _ _ _ h => h) (Or.inl ⟨by rfl, ?_⟩) (by assumption) ?_
      rotate_left
      · (intro w hSw; (try dsimp only at hSw); go_simp; (try with_reducible rfl))
      simp only [List.getElem_toArray, List.getElem_cons_succ, List.getElem_cons_zero, Act.put, List.setIfInBounds_toArray, List.set_cons_zero, List.set_cons_succ]
      refine wpAnyH_take (i := 15) (v := ?_) rfl (by kernel_rfl) (by kernel_rfl) (by kernel_rfl) (fun _ _ _ h => h) (Or.inl ⟨by rfl, ?_⟩) (by assumption) ?_
      rotate_left
      · (intro w hSw; (try dsimp only at hSw); go_simp; (try with_reducible rfl))
      simp only [List.getElem_toArray, List.getElem_cons_succ, List.getElem_cons_zero, Act.put, List.setIfInBounds_toArray, List.set_cons_zero, List.set_cons_succ]
      refine wpAnyH_ready (rs := [16]) (by kernel_rfl) (by simp) (AllReadyH.cons (o := _) rfl (fun K hK => ?_) AllReadyH.nil)
      go_simp
      go_at_call 25; refine (next_any (w := W2.drew) 3 (by omega) (by omega) hT2).mono ?_; rintro e w4 ⟨r3, rfl, hr3, hT4, hg4⟩; have p0 := c0.other (w := W2.drew) hg4 (by omega); have P0 := b2.other (w := W2.drew) hg4 (by omega); have G4 := only_trans (only_below G2 (drawn_below _) hs2) hg4; have hlt4 := Nat.lt_of_lt_of_le hb G4.size; have hX4 := NV.other (w := W2.drew) hX2 hT2 hg4; have hs4 := G4.size; have hsr := P0.lt
      go_wp2_with fail
      refine hK.out _ _ ?_ (fun hHeld => ?_)
      · exact ⟨p0.cell 0 _ rfl, p0.cell 1 _ rfl⟩
      clear hK K
      try simp only [List.getElem_toArray, List.getElem_cons_succ, List.getElem_cons_zero, Act.put, List.setIfInBounds_toArray, List.set_cons_zero, List.set_cons_succ]
      refine wpAnyH_ready (rs := [17]) (by kernel_rfl) (by simp) (AllReadyH.cons (o := _) rfl (fun K hK => ?_) AllReadyH.nil)
      go_simp
      go_at_call 26; refine (nats_v (b := w.heap.size) hX4 r3 (by omega) hsr (by omega)).mono ?_; rintro e w5 ⟨B5, k5, d5, rfl, hV, hb5⟩; have u0 := p0.below hb5; have U0 := P0.below hb5; have r0 := U0.cell 0 _ rfl; have r1 := U0.cell 1 _ rfl; have f0 := U0.frozen 0; have f1 := U0.frozen 1; have hT5 := hT4.keep hb5 hlt4; have G5 := only_below G4 hb5 hs4
      go_wp2_with fail
      refine hK.out _ _ ?_ (fun hHeld => ?_)
      · exact ⟨u0.cell 0 _ rfl, u0.cell 1 _ rfl⟩
      clear hK K
      try simp only [List.getElem_toArray, List.getElem_cons_succ, List.getElem_cons_zero, Act.put, List.setIfInBounds_toArray, List.set_cons_zero, List.set_cons_succ]
      refine wpAnyH_take (i := 18) (v := ?_) rfl (by kernel_rfl) (by kernel_rfl) (by kernel_rfl) (fun _ _ _ h => h) (Or.inl ⟨by rfl, ?_⟩) (by assumption) ?_
      rotate_left
      · (intro w hSw; (try dsimp only at hSw); go_simp; (try with_reducible rfl))
      simp only [List.getElem_toArray, List.getElem_cons_succ, List.getElem_cons_zero, Act.put, List.setIfInBounds_toArray, List.set_cons_zero, List.set_cons_succ]
      refine wpAnyH_ready (rs := [19]) (by kernel_rfl) (by simp) (AllReadyH.cons (o := _) rfl (fun K hK => ?_) AllReadyH.nil)
      go_simp
      refine hK.out _ _ ?_ (fun hHeld => ?_)
      · exact ⟨(u0.far (by omega) _ _).cell 0 _ rfl, (u0.far (by omega) _ _).cell 1 _ rfl⟩
      clear hK K
      try simp only [List.getElem_toArray, List.getElem_cons_succ, List.getElem_cons_zero, Act.put, List.setIfInBounds_toArray, List.set_cons_zero, List.set_cons_succ]
      refine wpAnyH_done (by kernel_rfl) ?_ _
      refine NoPanic.normal ?_
      have hbs := below_stored (Below.refl w.heap.size w5) (Nat.le_refl _) (.bool false) (.slice B5 k5 d5)
      have hVf := (hV.other (only_store w5 w.heap.size (.bool false) (.slice B5 k5 d5))).weak (Nat.le_of_lt hb)
      have htf := hT5.keep hbs hb
      have hgf := only_below G5 hbs (Nat.le_refl _)
      have hbx := U0.stored (.bool false) (.slice B5 k5 d5)
      go_wp2_with fail
      refine bodyPost_ret (ret_int rfl rfl hbx) rfl ?_
      exact ⟨_, _, B5, k5, d5, rfl, ⟨x, hVf, rfl⟩, htf, hgf⟩
  · go_wp2_with fail
    obtain ⟨W2, hW2, c0, hb2, hsz2⟩ := boxes1 w1 #[.bool true, .slice B k d] 32
    rw [hW2]
    clear hW2
    have b2 := b1.below hb2
    have hT2 := ht.keep hb2 hlt
    have hX2 := hX.below hb2
    have G2 := only_below g1 hb2 hs1
    have hs2 := G2.size
    refine wp_region_noPanic ?_
    refine wp_region_held_drew (S := (fun V => V.cell? ⟨w1.heap.size, 0, none⟩ = some (.bool true) ∧ V.cell? ⟨w1.heap.size, 1, none⟩ = some (.slice B k d))) (by kernel_rfl) ?_ (fun hHeld => ?_)
    · exact ⟨c0.cell 0 _ rfl, c0.cell 1 _ rfl⟩
    refine wpAnyH_take (i := 0) (v := ?_) rfl (by kernel_rfl) (by kernel_rfl) (by kernel_rfl) (fun _ _ _ h => h) (Or.inl ⟨by rfl, ?_⟩) (by assumption) ?_
    rotate_left
    · (intro w hSw; (try dsimp only at hSw); go_simp; (try with_reducible rfl))
    simp only [List.getElem_toArray, List.getElem_cons_zero, Act.put, List.setIfInBounds_toArray, List.set_cons_zero, List.set_cons_succ]
    refine wpAnyH_take (i := 1) (v := ?_) rfl (by kernel_rfl) (by kernel_rfl) (by kernel_rfl) (fun _ _ _ h => h) (Or.inl ⟨by rfl, ?_⟩) (by assumption) ?_
    rotate_left
    · (intro w hSw; (try dsimp only at hSw); go_simp; (try with_reducible rfl))
    simp only [List.getElem_toArray, List.getElem_cons_succ, List.getElem_cons_zero, Act.put, List.setIfInBounds_toArray, List.set_cons_zero, List.set_cons_succ]
    refine wpAnyH_take (i := 2) (v := ?_) rfl (by kernel_rfl) (by kernel_rfl) (by kernel_rfl) (fun _ _ _ h => h) (Or.inl ⟨by rfl, ?_⟩) (by assumption) ?_
    rotate_left
    · (intro w hSw; (try dsimp only at hSw); go_simp; (try with_reducible rfl))
    simp only [List.getElem_toArray, List.getElem_cons_succ, List.getElem_cons_zero, Act.put, List.setIfInBounds_toArray, List.set_cons_zero, List.set_cons_succ]
    refine wpAnyH_take (i := 3) (v := undef) rfl (by kernel_rfl) (by kernel_rfl) (by kernel_rfl) (fun _ _ _ h => h) (Or.inr ⟨by rfl, rfl⟩) (by assumption) ?_
    simp only [List.getElem_toArray, List.getElem_cons_succ, List.getElem_cons_zero, Act.put, List.setIfInBounds_toArray, List.set_cons_zero, List.set_cons_succ]
    refine wpAnyH_take (i := 4) (v := undef) rfl (by kernel_rfl) (by kernel_rfl) (by kernel_rfl) (fun _ _ _ h => h) (Or.inr ⟨by rfl, rfl⟩) (by assumption) ?_
    simp only [List.getElem_toArray, List.getElem_cons_succ, List.getElem_cons_zero, Act.put, List.setIfInBounds_toArray, List.set_cons_zero, List.set_cons_succ]
    refine wpAnyH_take (i := 5) (v := undef) rfl (by kernel_rfl) (by kernel_rfl) (by kernel_rfl) (fun _ _ _ h => h) (Or.inr ⟨by rfl, rfl⟩) (by assumption) ?_
    simp only [List.getElem_toArray, List.getElem_cons_succ, List.getElem_cons_zero, Act.put, List.setIfInBounds_toArray, List.set_cons_zero, List.set_cons_succ]
    refine wpAnyH_take (i := 6) (v := undef) rfl (by kernel_rfl) (by kernel_rfl) (by kernel_rfl) (fun _ _ _ h => h) (Or.inr ⟨by rfl, rfl⟩) (by assumption) ?_
    simp only [List.getElem_toArray, List.getElem_cons_succ, List.getElem_cons_zero, Act.put, List.setIfInBounds_toArray, List.set_cons_zero, List.set_cons_succ]
    refine wpAnyH_take (i := 7) (v := undef) rfl (by kernel_rfl) (by kernel_rfl) (by kernel_rfl) (fun _ _ _ h => h) (Or.inr ⟨by rfl, rfl⟩) (by assumption) ?_
    simp only [List.getElem_toArray, List.getElem_cons_succ, List.getElem_cons_zero, Act.put, List.setIfInBounds_toArray, List.set_cons_zero, List.set_cons_succ]
    refine wpAnyH_take (i := 8) (v := undef) rfl (by kernel_rfl) (by kernel_rfl) (by kernel_rfl) (fun _ _ _ h => h) (Or.inr ⟨by rfl, rfl⟩) (by assumption) ?_
    simp only [List.getElem_toArray, List.getElem_cons_succ, List.getElem_cons_zero, Act.put, List.setIfInBounds_toArray, List.set_cons_zero, List.set_cons_succ]
    refine wpAnyH_take (i := 9) (v := undef) rfl (by kernel_rfl) (by kernel_rfl) (by kernel_rfl) (fun _ _ _ h => h) (Or.inr ⟨by rfl, rfl⟩) (by assumption) ?_
    simp only [List.getElem_toArray, List.getElem_cons_succ, List.getElem_cons_zero, Act.put, List.setIfInBounds_toArray, List.set_cons_zero, List.set_cons_succ]
    refine wpAnyH_take (i := 10) (v := undef) rfl (by kernel_rfl) (by kernel_rfl) (by kernel_rfl) (fun _ _ _ h => h) (Or.inr ⟨by rfl, rfl⟩) (by assumption) ?_
    simp only [List.getElem_toArray, List.getElem_cons_succ, List.getElem_cons_zero, Act.put, List.setIfInBounds_toArray, List.set_cons_zero, List.set_cons_succ]
    refine wpAnyH_take (i := 11) (v := undef) rfl (by kernel_rfl) (by kernel_rfl) (by kernel_rfl) (fun _ _ _ h => h) (Or.inr ⟨by rfl, rfl⟩) (by assumption) ?_
    simp only [List.getElem_toArray, List.getElem_cons_succ, List.getElem_cons_zero, Act.put, List.setIfInBounds_toArray, List.set_cons_zero, List.set_cons_succ]
    refine wpAnyH_take (i := 12) (v := ?_) rfl (by kernel_rfl) (by kernel_rfl) (by kernel_rfl) (fun _ _ _ h => h) (Or.inl ⟨by rfl, ?_⟩) (by assumption) ?_
    rotate_left
    · (intro w hSw; (try dsimp only at hSw); go_simp; (try with_reducible rfl))
    simp only [List.getElem_toArray, List.getElem_cons_succ, List.getElem_cons_zero, Act.put, List.setIfInBounds_toArray, List.set_cons_zero, List.set_cons_succ]
    refine wpAnyH_take (i := 13) (v := ?_) rfl (by kernel_rfl) (by kernel_rfl) (by kernel_rfl) (fun _ _ _ h => h) (Or.inl ⟨by rfl, ?_⟩) (by assumption) ?_
    rotate_left
    · (intro w hSw; (try dsimp only at hSw); go_simp; (try with_reducible rfl))
    simp only [List.getElem_toArray, List.getElem_cons_succ, List.getElem_cons_zero, Act.put, List.setIfInBounds_toArray, List.set_cons_zero, List.set_cons_succ]
    refine wpAnyH_take (i := 14) (v := ?_) rfl (by kernel_rfl) (by kernel_rfl) (by kernel_rfl) (fun _ _ _ h => h) (Or.inl ⟨by rfl, ?_⟩) (by assumption) ?_
    rotate_left
    · (intro w hSw; (try dsimp only at hSw); go_simp; (try with_reducible rfl))
    simp only [List.getElem_toArray, List.getElem_cons_succ, List.getElem_cons_zero, Act.put, List.setIfInBounds_toArray, List.set_cons_zero, List.set_cons_succ]
    refine wpAnyH_take (i := 15) (v := ?_) rfl (by kernel_rfl) (by kernel_rfl) (by kernel_rfl) (fun _ _ _ h => h) (Or.inl ⟨by rfl, ?_⟩) (by assumption) ?_
    rotate_left
    · (intro w hSw; (try dsimp only at hSw); go_simp; (try with_reducible rfl))
    simp only [List.getElem_toArray, List.getElem_cons_succ, List.getElem_cons_zero, Act.put, List.setIfInBounds_toArray, List.set_cons_zero, List.set_cons_succ]
    refine wpAnyH_ready (rs := [16]) (by kernel_rfl) (by simp) (AllReadyH.cons (o := _) rfl (fun K hK => ?_) AllReadyH.nil)
    go_simp
    go_at_call 25; refine (next_any (w := W2.drew) 3 (by omega) (by omega) hT2).mono ?_; rintro e w4 ⟨r3, rfl, hr3, hT4, hg4⟩; have p0 := c0.other (w := W2.drew) hg4 (by omega); have P0 := b2.other (w := W2.drew) hg4 (by omega); have G4 := only_trans (only_below G2 (drawn_below _) hs2) hg4; have hlt4 := Nat.lt_of_lt_of_le hb G4.size; have hX4 := NV.other (w := W2.drew) hX2 hT2 hg4; have hs4 := G4.size; have hsr := P0.lt
    go_wp2_with fail
    refine hK.out _ _ ?_ (fun hHeld => ?_)
    · exact ⟨p0.cell 0 _ rfl, p0.cell 1 _ rfl⟩
    clear hK K
    try simp only [List.getElem_toArray, List.getElem_cons_succ, List.getElem_cons_zero, Act.put, List.setIfInBounds_toArray, List.set_cons_zero, List.set_cons_succ]
    refine wpAnyH_ready (rs := [17]) (by kernel_rfl) (by simp) (AllReadyH.cons (o := _) rfl (fun K hK => ?_) AllReadyH.nil)
    go_simp
    go_at_call 26; refine (nats_v (b := w.heap.size) hX4 r3 (by omega) hsr (by omega)).mono ?_; rintro e w5 ⟨B5, k5, d5, rfl, hV, hb5⟩; have u0 := p0.below hb5; have U0 := P0.below hb5; have r0 := U0.cell 0 _ rfl; have r1 := U0.cell 1 _ rfl; have f0 := U0.frozen 0; have f1 := U0.frozen 1; have hT5 := hT4.keep hb5 hlt4; have G5 := only_below G4 hb5 hs4
    go_wp2_with fail
    refine hK.out _ _ ?_ (fun hHeld => ?_)
    · exact ⟨u0.cell 0 _ rfl, u0.cell 1 _ rfl⟩
    clear hK K
    try simp only [List.getElem_toArray, List.getElem_cons_succ, List.getElem_cons_zero, Act.put, List.setIfInBounds_toArray, List.set_cons_zero, List.set_cons_succ]
    refine wpAnyH_take (i := 18) (v := ?_) rfl (by kernel_rfl) (by kernel_rfl) (by kernel_rfl) (fun _ _ _ h => h) (Or.inl ⟨by rfl, ?_⟩) (by assumption) ?_
    rotate_left
    · (intro w hSw; (try dsimp only at hSw); go_simp; (try with_reducible rfl))
    simp only [List.getElem_toArray, List.getElem_cons_succ, List.getElem_cons_zero, Act.put, List.setIfInBounds_toArray, List.set_cons_zero, List.set_cons_succ]
    refine wpAnyH_ready (rs := [19]) (by kernel_rfl) (by simp) (AllReadyH.cons (o := _) rfl (fun K hK => ?_) AllReadyH.nil)
    go_simp
    refine hK.out _ _ ?_ (fun hHeld => ?_)
    · exact ⟨(u0.far (by omega) _ _).cell 0 _ rfl, (u0.far (by omega) _ _).cell 1 _ rfl⟩
    clear hK K
    try simp only [List.getElem_toArray, List.getElem_cons_succ, List.getElem_cons_zero, Act.put, List.setIfInBounds_toArray, List.set_cons_zero, List.set_cons_succ]
    refine wpAnyH_done (by kernel_rfl) ?_ _
    refine NoPanic.normal ?_
    have hbs := below_stored (Below.refl w.heap.size w5) (Nat.le_refl _) (.bool true) (.slice B5 k5 d5)
    have hVf := (hV.other (only_store w5 w.heap.size (.bool true) (.slice B5 k5 d5))).weak (Nat.le_of_lt hb)
    have htf := hT5.keep hbs hb
    have hgf := only_below G5 hbs (Nat.le_refl _)
    have hbx := U0.stored (.bool true) (.slice B5 k5 d5)
    go_wp2_with fail
    refine bodyPost_ret (ret_int rfl rfl hbx) rfl ?_
    exact ⟨_, _, B5, k5, d5, rfl, ⟨x, hVf, rfl⟩, htf, hgf⟩
end
end Go.Proofs.YtkhfadfjkmhpgaaDoor
namespace Go.Proofs.YtkhfadfjkmhpgaaDoor
open Go.RowKit

set_option maxRecDepth 100000 in
theorem sameI_v {A A' : Option Addr} {n n' c c' L L' : Nat} {s s' : Bool} {z z' : Int} {w : World} (h : NI w s (.slice A n c) z L) (h' : NI w s' (.slice A' n' c') z' L') (he : z = z') :
    Calls Tryd.prog 33 #[.agg #[.bool s, .slice A n c], .agg #[.bool s', .slice A' n' c']] w fun e w' => e = .returned (.bool true) ∧ Below w.heap.size w w' := by
  subst he
  have hs : s = s' := by rw [h.2, h'.2]
  subst hs
  go_enter Tryd.func33, Tryd.ntmps33
  go_wp2_with fail
  obtain ⟨W, hW, b0, b1, hbW, hsz⟩ := boxes2 w #[.bool s, .slice A n c] #[.bool s, .slice A' n' c'] 28 28
  rw [hW]
  refine (same_true (Raw.below h.1.1 hbW) (Raw.below h'.1.1 hbW)).mono ?_
  rintro e w1 ⟨rfl, j, rfl⟩
  have hbf := below_drewN hbW j
  go_wp2_with fail
  go_returns
  exact ⟨rfl, hbf⟩
set_option maxRecDepth 100000 in
theorem small1 (W : World) : Calls Tryd.prog 79 #[.int .i64 1] W fun e W' => e = .returned (.string ⟨#[49]⟩) ∧ W = W' := by
  go_enter Tryd.func79, Tryd.ntmps79
  go_wp2_with fail
  go_ret
  exact ⟨rfl, rfl⟩
theorem app_grow1 (W : World) : GrowB ((W.alloc (.cells (#[Value.int .u8 49] ++ Builtin.zeroCells #[Value.int .u8 0] (grownCap W 1 0 5 - 1)) 5)).drew) W.heap.size (.slice (some ⟨W.heap.size, 0, none⟩) 1 (grownCap W 1 0 5)) [49] := by
  have h1 := grownCap_ge W 1 0 5
  have h2 := grownCap_le_maxLen W 1 0 5 (by simp only [maxLen]; omega)
  refine ⟨okB_one (by omega), by simp, .inr ⟨W.heap.size, _, _, rfl, Nat.le_refl _, heap_alloc_new W _, h1, h2, ?_, ?_⟩⟩
  · simp [size_zeroCells]; omega
  · simp [bv]
set_option maxRecDepth 100000 in
theorem inapp1 (W : World) : Calls Tryd.prog 78 #[.slice none 0 0, .int .u64 1, .int .i64 10] W fun e W' => ∃ v, e = .returned v ∧ GrowB W' W.heap.size v [49] ∧ Below W.heap.size W W' := by
  have H := Lib.hid (app_grow1 W)
  go_enter Tryd.func78, Tryd.ntmps78
  go_wp2_with fail
  refine (small1 _).mono ?_
  rintro e W' ⟨rfl, rfl⟩
  go_wp2_with fail
  go_ret
  exact ⟨_, rfl, H.out, (below_alloc W _).drew⟩
theorem app1 (w : World) : AppOk w 1 := fun W _ => by
  have hd : decs 1 = [49] := by rw [decs_pos (by omega), show 1 / 10 = 0 from rfl, decs_zero]; rfl
  rw [hd]
  have H := Lib.hid (inapp1 W)
  clear hd
  go_enter Tryd.func76, Tryd.ntmps76
  go_wp2_with fail
  refine H.out.mono ?_
  rintro e W' ⟨v, rfl, hg, hb⟩
  go_wp2_with fail
  go_ret
  exact ⟨v, rfl, hg, hb⟩
theorem nformat_dig {A : Option Addr} {n c L x : Nat} {w : World} (hx : RV w (.slice A n c) x L) (hL : L ≤ 1000) (hx0 : 0 < x) (hx9 : x < 1000000000) (hA : AppOk w x) :
    Calls Tryd.prog 64 #[.slice A n c] w fun e w' => e = .returned (.string (strB (decs x))) ∧ Below w.heap.size w w' := by
  obtain ⟨ds, h1, h2, h3⟩ := hx
  exact format_pos h1 (Lib.hid h2) hx0 (by rw [top9_small hx9]; exact hA) (by omega)
set_option maxRecDepth 100000 in
theorem format_m4 {A : Option Addr} {n c L : Nat} {s : Bool} {w : World} (h : NI w s (.slice A n c) (-4) L) (hL : L ≤ 1000) :
    Calls Tryd.prog 46 #[.agg #[.bool s, .slice A n c]] w fun e w' => e = .returned (.string ⟨#[45, 52]⟩) ∧ Below w.heap.size w w' := by
  have H := fun W (hbW : Below w.heap.size w W) => nformat_dig (x := 4) (h.below hbW).ri.rv hL (by omega) (by omega) (app4 W)
  simp only [show strB (decs 4) = ⟨#[52]⟩ by rw [decs_pos (by omega), show 4 / 10 = 0 from rfl, decs_zero]; rfl] at H
  have HH := Lib.hid H
  clear H
  go_enter Tryd.func46, Tryd.ntmps46
  go_wp2_with fail
  obtain ⟨W, hW, b0, hbW, hsz⟩ := boxes1 w #[.bool s, .slice A n c] 28
  rw [hW]
  refine (HH.out W hbW).mono ?_
  rintro e w1 ⟨rfl, hb0⟩
  have hb := hbW.trans (hb0.mono hbW.size)
  have h1 := h.below hb
  have q0 := b0.below hb0
  have a0 := q0.cell 0 _ rfl
  have a1 := q0.cell 1 _ rfl
  go_wp2_with fail
  refine (isign_v h1.ri).mono ?_
  rintro e w2 ⟨rfl, hb2⟩
  have hb3 := hb.trans (hb2.mono hb.size)
  rw [show (-4 : Int).sign = -1 from rfl]
  go_wp2_with fail
  go_returns
  exact ⟨rfl, hb3⟩
set_option maxRecDepth 100000 in
theorem format_p1 {A : Option Addr} {n c L : Nat} {s : Bool} {w : World} (h : NI w s (.slice A n c) 1 L) (hL : L ≤ 1000) :
    Calls Tryd.prog 46 #[.agg #[.bool s, .slice A n c]] w fun e w' => e = .returned (.string ⟨#[49]⟩) ∧ Below w.heap.size w w' := by
  have H := fun W (hbW : Below w.heap.size w W) => nformat_dig (x := 1) (h.below hbW).ri.rv hL (by omega) (by omega) (app1 W)
  simp only [show strB (decs 1) = ⟨#[49]⟩ by rw [decs_pos (by omega), show 1 / 10 = 0 from rfl, decs_zero]; rfl] at H
  have HH := Lib.hid H
  clear H
  go_enter Tryd.func46, Tryd.ntmps46
  go_wp2_with fail
  obtain ⟨W, hW, b0, hbW, hsz⟩ := boxes1 w #[.bool s, .slice A n c] 28
  rw [hW]
  refine (HH.out W hbW).mono ?_
  rintro e w1 ⟨rfl, hb0⟩
  have hb := hbW.trans (hb0.mono hbW.size)
  have h1 := h.below hb
  have q0 := b0.below hb0
  have a0 := q0.cell 0 _ rfl
  have a1 := q0.cell 1 _ rfl
  go_wp2_with fail
  refine (isign_v h1.ri).mono ?_
  rintro e w2 ⟨rfl, hb2⟩
  have hb3 := hb.trans (hb2.mono hb.size)
  rw [show (1 : Int).sign = 1 from rfl]
  go_wp2_with fail
  go_returns
  exact ⟨rfl, hb3⟩
set_option maxRecDepth 100000 in
theorem known2_any (w : World) : Calls Tryd.prog 21 #[] w fun e w' => e = .returned (.bool true) ∧ Below w.heap.size w w' := by
  go_enter Tryd.func21, Tryd.ntmps21
  go_wp2_with fail
  refine (ifromint_v (-7) (by omega) (by omega) w).mono ?_
  rintro e w1 ⟨t1, B1, k1, d1, rfl, h1, hb⟩
  go_wp2_with fail
  refine (ifromint_v 2 (by omega) (by omega) w1).mono ?_
  rintro e w2 ⟨t2, B2, k2, d2, rfl, h2, hb2⟩
  have h3 := h1.below hb2
  have hb3 := hb.trans (hb2.mono hb.size)
  clear hb hb2 h1
  go_wp2_with fail
  refine (idivmod_v h3.ri h2.ri (by omega) (by omega)).mono ?_
  rintro e w3 ⟨zq, zr, t, B, k, d, t', B', k', d', rfl, hQ, hR, hqr, hb4⟩
  have hb5 := hb3.trans (hb4.mono hb3.size)
  obtain ⟨e1, e2, e3⟩ := hqr
  have e4 : zq = -4 := by omega
  have e5 : zr = 1 := by omega
  rw [e4] at hQ
  rw [e5] at hR
  clear e1 e2 e3 e4 e5 hb3 hb4 h3 h2
  go_wp2_with fail
  obtain ⟨W, hW, b0, b1, hbW, hsz⟩ := boxes2 w3 #[.bool t, .slice B k d] #[.bool t', .slice B' k' d'] 28 28
  rw [hW]
  refine (format_m4 (hQ.below hbW) (by omega)).mono ?_
  rintro e w4 ⟨rfl, hb6⟩
  have hR2 := (hR.below hbW).below hb6
  have hb7 := hb5.trans ((hbW.trans (hb6.mono hbW.size)).mono hb5.size)
  have q1 := b1.below hb6
  have a0 := q1.cell 0 _ rfl
  have a1 := q1.cell 1 _ rfl
  clear hb5 hb6 hR hQ
  go_wp2_with fail
  refine (format_p1 hR2 (by omega)).mono ?_
  rintro e w5 ⟨rfl, hb8⟩
  have hb9 := hb7.trans (hb8.mono hb7.size)
  go_wp2_with fail
  go_returns
  exact ⟨rfl, hb9⟩
end Go.Proofs.YtkhfadfjkmhpgaaDoor
namespace Go.Proofs.YtkhfadfjkmhpgaaDoor
open Go.RowKit

section
variable {A A' : Option Addr} {n n' c c' L L' : Nat} {s s' : Bool} {z z' k : Int} {w : World}
theorem isign_is (h : RI w s (.slice A n c) z L) (hk : z.sign = k) :
    Calls Tryd.prog 65 #[.agg #[.bool s, .slice A n c]] w fun e w' => e = .returned (.int .i64 k) ∧ Below w.heap.size w w' := by
  subst hk; exact isign_v h
end
end Go.Proofs.YtkhfadfjkmhpgaaDoor
namespace Go.Proofs.YtkhfadfjkmhpgaaDoor
open Go.RowKit

section
variable {A A' : Option Addr} {n n' c c' x y L L' : Nat} {s s' : Bool} {z z' k : Int} {w : World} {ds : List Nat}
set_option maxRecDepth 100000 in
theorem refI_v (h : RI w s (.slice A n c) z L) :
    Calls Tryd.prog 6 #[.agg #[.bool s, .slice A n c]] w fun e w' => ∃ t B k d, e = .returned (.agg #[.bool t, .slice B k d]) ∧ NI w' t (.slice B k d) z L ∧ Below w.heap.size w w' := by
  have hz := h.sg.symm
  have hr := h.rv
  have HZ := Lib.hid hz
  clear h hz
  go_enter Tryd.func6, Tryd.ntmps6
  go_wp2_with fail
  obtain ⟨W, hW, b0, b1, hbW, hsz⟩ := boxes2 w #[.bool s, .slice A n c] #[.bool false, .slice none 0 0] 28 32
  rw [hW]
  clear hW
  have hr1 := hr.below (hbW.trans ((drawn_below W).mono hbW.size))
  go_region_held3 (fun V => V.cell? ⟨w.heap.size, 0, none⟩ = some (.bool s) ∧ V.cell? ⟨w.heap.size, 1, none⟩ = some (.slice A n c)) (first | exact KC | exact HC | exact (And.intro (b0.cell 0 _ rfl) (b0.cell 1 _ rfl)) | exact ⟨(p0.far (by omega) _ _).cell 0 _ rfl, (p0.far (by omega) _ _).cell 1 _ rfl⟩ | go_keep)
    (first
      | (go_at_call 27; refine (n_v hr1).mono ?_; rintro e w1 ⟨B, k, d, rfl, hN, hb1⟩; have hb1' := below_drawn hb1; have q0 := b0.below hb1'; have q1 := b1.below hb1'; have HC := (And.intro (q0.cell 0 _ rfl) (q0.cell 1 _ rfl)))
      | (go_at_call 23; refine (nmake_v _ hN HZ.out).mono ?_; rintro e w2 ⟨t, rfl, hI, hb2⟩; have p0 := q0.below hb2; have p1 := q1.below hb2; have KC := (And.intro (p0.cell 0 _ rfl) (p0.cell 1 _ rfl)); have r0 := p1.cell 0 _ rfl; have r1 := p1.cell 1 _ rfl; have f0 := p1.frozen 0; have f1 := p1.frozen 1; have hbT := hbW.trans ((hb1'.trans (hb2.mono hb1'.size)).mono hbW.size))
    )
  have hF := hI.stored p1 (notInt_box _ _ _ _) (.bool t) (.slice B k d)
  have hbf := below_stored (g := w.heap.size + 1) hbT (by omega) (.bool t) (.slice B k d)
  have hbx := p1.stored (.bool t) (.slice B k d)
  go_wp2_with fail
  refine bodyPost_ret (ret_intN rfl rfl hbx) rfl ?_
  exact ⟨t, B, k, d, rfl, hF, hbf⟩
set_option maxRecDepth 100000 in
theorem nminus_v (h : NI w s (.slice A n c) z L) :
    Calls Tryd.prog 10 #[.agg #[.bool s, .slice A n c]] w fun e w' => ∃ t, e = .returned (.agg #[.bool t, .slice A n c]) ∧ NI w' t (.slice A n c) (-z) L ∧ Below w.heap.size w w' := by
  have hz := h.ri.flip.sg.symm
  rw [Int.natAbs_neg] at hz
  have hN := h.1
  have HZ := Lib.hid hz
  clear h hz
  go_enter Tryd.func10, Tryd.ntmps10
  go_wp2_with fail
  obtain ⟨W, hW, b0, b1, hbW, hsz⟩ := boxes2 w #[.bool s, .slice A n c] #[.bool false, .slice none 0 0] 32 32
  rw [hW]
  clear hW
  refine (nmake_v _ (hN.below hbW) HZ.out).mono ?_
  rintro e w2 ⟨t, rfl, hI, hb2⟩
  have p1 := b1.below hb2
  have r0 := p1.cell 0 _ rfl
  have r1 := p1.cell 1 _ rfl
  have f0 := p1.frozen 0
  have f1 := p1.frozen 1
  have hbT := hbW.trans (hb2.mono hbW.size)
  have hF := hI.stored p1 (notInt_box _ _ _ _) (.bool t) (.slice A n c)
  have hbf := below_stored (g := w.heap.size + 1) hbT (by omega) (.bool t) (.slice A n c)
  have hbx := p1.stored (.bool t) (.slice A n c)
  go_wp2_with fail
  refine bodyPost_ret (ret_intN rfl rfl hbx) rfl ?_
  exact ⟨t, rfl, hF, hbf⟩
set_option maxRecDepth 100000 in
theorem nadd_same (s : Bool) (hx : NV w (.slice A n c) x L) (hy : NV w (.slice A' n' c') y L') (hL : L ≤ 1000000) (hL' : L' ≤ 1000000) (hz : sg s (x + y) = z) :
    Calls Tryd.prog 15 #[.agg #[.bool s, .slice A n c], .agg #[.bool s, .slice A' n' c']] w fun e w' => ∃ t B k d, e = .returned (.agg #[.bool t, .slice B k d]) ∧ NI w' t (.slice B k d) z (max L L' + 1) ∧ Below w.heap.size w w' := by
  have HZ := Lib.hid hz
  have hbd := add_lt_Bs hx.2 hy.2
  have hl1 : n < 1000000000 := by rw [(Raw.cap hx.1).1]; have := digs_length_le hx.2; omega
  have hl2 : n' < 1000000000 := by rw [(Raw.cap hy.1).1]; have := digs_length_le hy.2; omega
  have HBD := Lib.hid hbd
  have HN := Lib.hid (fun W (hb : Below w.heap.size w W) => nsum_is (Num.below hx.1 hb) (Num.below hy.1 hb) hl1 hl2)
  clear hz hbd hl1 hl2 hx hy
  cases s
  · go_enter Tryd.func15, Tryd.ntmps15
    go_wp2_with fail
    obtain ⟨W, hW, b0, b1, b2, hbW, hsz⟩ := boxes3 w #[.bool false, .slice A n c] #[.bool false, .slice A' n' c'] #[.bool false, .slice none 0 0] 32 32 32
    rw [hW]
    clear hW
    have HD := HN.out W.drew (hbW.trans ((drawn_below W).mono hbW.size))
    go_region_held3 (fun V => V.cell? ⟨w.heap.size, 0, none⟩ = some (.bool false) ∧ V.cell? ⟨w.heap.size, 1, none⟩ = some (.slice A n c) ∧ V.cell? ⟨w.heap.size + 1, 0, none⟩ = some (.bool false) ∧ V.cell? ⟨w.heap.size + 1, 1, none⟩ = some (.slice A' n' c')) (first | exact KC | exact HC | exact (And.intro (b0.cell 0 _ rfl) (And.intro (b0.cell 1 _ rfl) (And.intro (b1.cell 0 _ rfl) (b1.cell 1 _ rfl)))) | exact ⟨(p0.far (by omega) _ _).cell 0 _ rfl, (p0.far (by omega) _ _).cell 1 _ rfl, (p1.far (by omega) _ _).cell 0 _ rfl, (p1.far (by omega) _ _).cell 1 _ rfl⟩ | go_keep)
      (first
        | (go_at_call 36; refine HD.mono ?_; rintro e w1 ⟨B, k, d, rfl, hN, hb1⟩; have hV : NV w1 (.slice B k d) (x + y) (max L L' + 1) := ⟨hN, HBD.out⟩; have hb1' := below_drawn hb1; have q0 := b0.below hb1'; have q1 := b1.below hb1'; have q2 := b2.below hb1'; have HC := (And.intro (q0.cell 0 _ rfl) (And.intro (q0.cell 1 _ rfl) (And.intro (q1.cell 0 _ rfl) (q1.cell 1 _ rfl)))))
        | (go_at_call 23; refine (nmake_v _ hV HZ.out).mono ?_; rintro e w2 ⟨t, rfl, hI, hb2⟩; have p0 := q0.below hb2; have p1 := q1.below hb2; have p2 := q2.below hb2; have KC := (And.intro (p0.cell 0 _ rfl) (And.intro (p0.cell 1 _ rfl) (And.intro (p1.cell 0 _ rfl) (p1.cell 1 _ rfl)))); have r0 := p2.cell 0 _ rfl; have r1 := p2.cell 1 _ rfl; have f0 := p2.frozen 0; have f1 := p2.frozen 1; have hbT := hbW.trans ((hb1'.trans (hb2.mono hb1'.size)).mono hbW.size))
      )
    have hF := hI.stored p2 (notInt_box _ _ _ _) (.bool t) (.slice B k d)
    have hbf := below_stored (g := w.heap.size + 1 + 1) hbT (by omega) (.bool t) (.slice B k d)
    have hbx := p2.stored (.bool t) (.slice B k d)
    go_wp2_with fail
    refine bodyPost_ret (ret_intN rfl rfl hbx) rfl ?_
    exact ⟨t, B, k, d, rfl, hF, hbf⟩
  · go_enter Tryd.func15, Tryd.ntmps15
    go_wp2_with fail
    obtain ⟨W, hW, b0, b1, b2, hbW, hsz⟩ := boxes3 w #[.bool true, .slice A n c] #[.bool true, .slice A' n' c'] #[.bool false, .slice none 0 0] 32 32 32
    rw [hW]
    clear hW
    have HD := HN.out W.drew (hbW.trans ((drawn_below W).mono hbW.size))
    go_region_held3 (fun V => V.cell? ⟨w.heap.size, 0, none⟩ = some (.bool true) ∧ V.cell? ⟨w.heap.size, 1, none⟩ = some (.slice A n c) ∧ V.cell? ⟨w.heap.size + 1, 0, none⟩ = some (.bool true) ∧ V.cell? ⟨w.heap.size + 1, 1, none⟩ = some (.slice A' n' c')) (first | exact KC | exact HC | exact (And.intro (b0.cell 0 _ rfl) (And.intro (b0.cell 1 _ rfl) (And.intro (b1.cell 0 _ rfl) (b1.cell 1 _ rfl)))) | exact ⟨(p0.far (by omega) _ _).cell 0 _ rfl, (p0.far (by omega) _ _).cell 1 _ rfl, (p1.far (by omega) _ _).cell 0 _ rfl, (p1.far (by omega) _ _).cell 1 _ rfl⟩ | go_keep)
      (first
        | (go_at_call 36; refine HD.mono ?_; rintro e w1 ⟨B, k, d, rfl, hN, hb1⟩; have hV : NV w1 (.slice B k d) (x + y) (max L L' + 1) := ⟨hN, HBD.out⟩; have hb1' := below_drawn hb1; have q0 := b0.below hb1'; have q1 := b1.below hb1'; have q2 := b2.below hb1'; have HC := (And.intro (q0.cell 0 _ rfl) (And.intro (q0.cell 1 _ rfl) (And.intro (q1.cell 0 _ rfl) (q1.cell 1 _ rfl)))))
        | (go_at_call 23; refine (nmake_v _ hV HZ.out).mono ?_; rintro e w2 ⟨t, rfl, hI, hb2⟩; have p0 := q0.below hb2; have p1 := q1.below hb2; have p2 := q2.below hb2; have KC := (And.intro (p0.cell 0 _ rfl) (And.intro (p0.cell 1 _ rfl) (And.intro (p1.cell 0 _ rfl) (p1.cell 1 _ rfl)))); have r0 := p2.cell 0 _ rfl; have r1 := p2.cell 1 _ rfl; have f0 := p2.frozen 0; have f1 := p2.frozen 1; have hbT := hbW.trans ((hb1'.trans (hb2.mono hb1'.size)).mono hbW.size))
      )
    have hF := hI.stored p2 (notInt_box _ _ _ _) (.bool t) (.slice B k d)
    have hbf := below_stored (g := w.heap.size + 1 + 1) hbT (by omega) (.bool t) (.slice B k d)
    have hbx := p2.stored (.bool t) (.slice B k d)
    go_wp2_with fail
    refine bodyPost_ret (ret_intN rfl rfl hbx) rfl ?_
    exact ⟨t, B, k, d, rfl, hF, hbf⟩
theorem ncmp_at {r : Int} (hX : Num w (.slice A n c) x) (hY : Num w (.slice A' n' c') y) (hr : cmpI x y = r) :
    Calls Tryd.prog 37 #[.slice A n c, .slice A' n' c'] w fun e w' => e = .returned (.int .i64 r) ∧ ∃ j, w' = w.drewN j := by
  subst hr; exact ncmp_is hX hY
set_option maxRecDepth 100000 in
theorem nadd_ge (hs : (s = true ∧ s' = false) ∨ (s = false ∧ s' = true)) (hx : NV w (.slice A n c) x L) (hy : NV w (.slice A' n' c') y L') (hL : L ≤ 1000000) (hle : y ≤ x) (hz : sg s (x - y) = z) :
    Calls Tryd.prog 15 #[.agg #[.bool s, .slice A n c], .agg #[.bool s', .slice A' n' c']] w fun e w' => ∃ t B k d, e = .returned (.agg #[.bool t, .slice B k d]) ∧ NI w' t (.slice B k d) z (max L L' + 1) ∧ Below w.heap.size w w' := by
  have HZ := Lib.hid hz
  have hl1 : n < 1000000000 := by rw [(Raw.cap hx.1).1]; have := digs_length_le hx.2; omega
  have hbd : x - y < Bs (max L L' + 1) := Nat.lt_of_le_of_lt (Nat.sub_le _ _) (Nat.lt_of_lt_of_le hx.2 (Bs_mono (by omega)))
  obtain ⟨r, hr, hr0⟩ : ∃ r : Int, cmpI x y = r ∧ 0 ≤ r := by
    rcases Nat.lt_or_ge y x with h1 | h1
    · exact ⟨1, cmpI_gt h1, by omega⟩
    · exact ⟨0, cmpI_eq (by omega), by omega⟩
  have hrd : decide (r < 0) = false := decide_eq_false (by omega)
  have HC := Lib.hid (fun W (hb : Below w.heap.size w W) => ncmp_at (Num.below hx.1 hb) (Num.below hy.1 hb) hr)
  have HBD := Lib.hid hbd
  have HN := Lib.hid (fun W (hb : Below w.heap.size w W) => nless_is (Num.below hx.1 hb) (Num.below hy.1 hb) hle hl1)
  clear hz hle hr hbd hl1 hx hy
  rcases hs with ⟨rfl, rfl⟩ | ⟨rfl, rfl⟩
  · go_enter Tryd.func15, Tryd.ntmps15
    go_wp2_with fail
    obtain ⟨W, hW, b0, b1, b2, hbW, hsz⟩ := boxes3 w #[.bool true, .slice A n c] #[.bool false, .slice A' n' c'] #[.bool false, .slice none 0 0] 32 32 32
    rw [hW]
    clear hW
    refine (HC.out W hbW).mono ?_
    rintro e w0 ⟨rfl, j, rfl⟩
    replace hbW : Below w.heap.size w (W.drewN j) := below_drewN hbW j
    replace b0 : Box (W.drewN j) _ _ _ := b0
    replace b1 : Box (W.drewN j) _ _ _ := b1
    replace b2 : Box (W.drewN j) _ _ _ := b2
    generalize W.drewN j = X at *
    have c0 := b0.cell 0 _ rfl
    have c1 := b0.cell 1 _ rfl
    have d0 := b1.cell 0 _ rfl
    have d1 := b1.cell 1 _ rfl
    go_wp2_with fail
    have HD := HN.out X.drew (hbW.trans ((drawn_below X).mono hbW.size))
    go_region_held3 (fun V => V.cell? ⟨w.heap.size, 0, none⟩ = some (.bool true) ∧ V.cell? ⟨w.heap.size, 1, none⟩ = some (.slice A n c) ∧ V.cell? ⟨w.heap.size + 1, 0, none⟩ = some (.bool false) ∧ V.cell? ⟨w.heap.size + 1, 1, none⟩ = some (.slice A' n' c')) (first | exact KC | exact HC | exact (And.intro (b0.cell 0 _ rfl) (And.intro (b0.cell 1 _ rfl) (And.intro (b1.cell 0 _ rfl) (b1.cell 1 _ rfl)))) | exact ⟨(p0.far (by omega) _ _).cell 0 _ rfl, (p0.far (by omega) _ _).cell 1 _ rfl, (p1.far (by omega) _ _).cell 0 _ rfl, (p1.far (by omega) _ _).cell 1 _ rfl⟩ | go_keep)
      (first
        | (go_at_call 38; refine HD.mono ?_; rintro e w1 ⟨B, k, d, rfl, hN, hb1⟩; have hV : NV w1 (.slice B k d) (x - y) (max L L' + 1) := ⟨hN, HBD.out⟩; have hb1' := below_drawn hb1; have q0 := b0.below hb1'; have q1 := b1.below hb1'; have q2 := b2.below hb1'; have HC := (And.intro (q0.cell 0 _ rfl) (And.intro (q0.cell 1 _ rfl) (And.intro (q1.cell 0 _ rfl) (q1.cell 1 _ rfl)))))
        | (go_at_call 23; refine (nmake_v _ hV HZ.out).mono ?_; rintro e w2 ⟨t, rfl, hI, hb2⟩; have p0 := q0.below hb2; have p1 := q1.below hb2; have p2 := q2.below hb2; have KC := (And.intro (p0.cell 0 _ rfl) (And.intro (p0.cell 1 _ rfl) (And.intro (p1.cell 0 _ rfl) (p1.cell 1 _ rfl)))); have r0 := p2.cell 0 _ rfl; have r1 := p2.cell 1 _ rfl; have f0 := p2.frozen 0; have f1 := p2.frozen 1; have hbT := hbW.trans ((hb1'.trans (hb2.mono hb1'.size)).mono hbW.size))
      )
    have hF := hI.stored p2 (notInt_box _ _ _ _) (.bool t) (.slice B k d)
    have hbf := below_stored (g := w.heap.size + 1 + 1) hbT (by omega) (.bool t) (.slice B k d)
    have hbx := p2.stored (.bool t) (.slice B k d)
    go_wp2_with fail
    refine bodyPost_ret (ret_intN rfl rfl hbx) rfl ?_
    exact ⟨t, B, k, d, rfl, hF, hbf⟩
  · go_enter Tryd.func15, Tryd.ntmps15
    go_wp2_with fail
    obtain ⟨W, hW, b0, b1, b2, hbW, hsz⟩ := boxes3 w #[.bool false, .slice A n c] #[.bool true, .slice A' n' c'] #[.bool false, .slice none 0 0] 32 32 32
    rw [hW]
    clear hW
    refine (HC.out W hbW).mono ?_
    rintro e w0 ⟨rfl, j, rfl⟩
    replace hbW : Below w.heap.size w (W.drewN j) := below_drewN hbW j
    replace b0 : Box (W.drewN j) _ _ _ := b0
    replace b1 : Box (W.drewN j) _ _ _ := b1
    replace b2 : Box (W.drewN j) _ _ _ := b2
    generalize W.drewN j = X at *
    have c0 := b0.cell 0 _ rfl
    have c1 := b0.cell 1 _ rfl
    have d0 := b1.cell 0 _ rfl
    have d1 := b1.cell 1 _ rfl
    go_wp2_with fail
    have HD := HN.out X.drew (hbW.trans ((drawn_below X).mono hbW.size))
    go_region_held3 (fun V => V.cell? ⟨w.heap.size, 0, none⟩ = some (.bool false) ∧ V.cell? ⟨w.heap.size, 1, none⟩ = some (.slice A n c) ∧ V.cell? ⟨w.heap.size + 1, 0, none⟩ = some (.bool true) ∧ V.cell? ⟨w.heap.size + 1, 1, none⟩ = some (.slice A' n' c')) (first | exact KC | exact HC | exact (And.intro (b0.cell 0 _ rfl) (And.intro (b0.cell 1 _ rfl) (And.intro (b1.cell 0 _ rfl) (b1.cell 1 _ rfl)))) | exact ⟨(p0.far (by omega) _ _).cell 0 _ rfl, (p0.far (by omega) _ _).cell 1 _ rfl, (p1.far (by omega) _ _).cell 0 _ rfl, (p1.far (by omega) _ _).cell 1 _ rfl⟩ | go_keep)
      (first
        | (go_at_call 38; refine HD.mono ?_; rintro e w1 ⟨B, k, d, rfl, hN, hb1⟩; have hV : NV w1 (.slice B k d) (x - y) (max L L' + 1) := ⟨hN, HBD.out⟩; have hb1' := below_drawn hb1; have q0 := b0.below hb1'; have q1 := b1.below hb1'; have q2 := b2.below hb1'; have HC := (And.intro (q0.cell 0 _ rfl) (And.intro (q0.cell 1 _ rfl) (And.intro (q1.cell 0 _ rfl) (q1.cell 1 _ rfl)))))
        | (go_at_call 23; refine (nmake_v _ hV HZ.out).mono ?_; rintro e w2 ⟨t, rfl, hI, hb2⟩; have p0 := q0.below hb2; have p1 := q1.below hb2; have p2 := q2.below hb2; have KC := (And.intro (p0.cell 0 _ rfl) (And.intro (p0.cell 1 _ rfl) (And.intro (p1.cell 0 _ rfl) (p1.cell 1 _ rfl)))); have r0 := p2.cell 0 _ rfl; have r1 := p2.cell 1 _ rfl; have f0 := p2.frozen 0; have f1 := p2.frozen 1; have hbT := hbW.trans ((hb1'.trans (hb2.mono hb1'.size)).mono hbW.size))
      )
    have hF := hI.stored p2 (notInt_box _ _ _ _) (.bool t) (.slice B k d)
    have hbf := below_stored (g := w.heap.size + 1 + 1) hbT (by omega) (.bool t) (.slice B k d)
    have hbx := p2.stored (.bool t) (.slice B k d)
    go_wp2_with fail
    refine bodyPost_ret (ret_intN rfl rfl hbx) rfl ?_
    exact ⟨t, B, k, d, rfl, hF, hbf⟩
set_option maxRecDepth 100000 in
theorem nadd_lt (hs : (s = true ∧ s' = false) ∨ (s = false ∧ s' = true)) (hx : NV w (.slice A n c) x L) (hy : NV w (.slice A' n' c') y L') (hL' : L' ≤ 1000000) (hlt : x < y) (hz : sg s' (y - x) = z) :
    Calls Tryd.prog 15 #[.agg #[.bool s, .slice A n c], .agg #[.bool s', .slice A' n' c']] w fun e w' => ∃ t B k d, e = .returned (.agg #[.bool t, .slice B k d]) ∧ NI w' t (.slice B k d) z (max L L' + 1) ∧ Below w.heap.size w w' := by
  have HZ := Lib.hid hz
  have hl1 : n' < 1000000000 := by rw [(Raw.cap hy.1).1]; have := digs_length_le hy.2; omega
  have hbd : y - x < Bs (max L L' + 1) := Nat.lt_of_le_of_lt (Nat.sub_le _ _) (Nat.lt_of_lt_of_le hy.2 (Bs_mono (by omega)))
  have HC := Lib.hid (fun W (hb : Below w.heap.size w W) => ncmp_at (Num.below hx.1 hb) (Num.below hy.1 hb) (cmpI_lt hlt))
  have HBD := Lib.hid hbd
  have HN := Lib.hid (fun W (hb : Below w.heap.size w W) => nless_is (Num.below hy.1 hb) (Num.below hx.1 hb) (Nat.le_of_lt hlt) hl1)
  clear hz hlt hbd hl1 hx hy
  rcases hs with ⟨rfl, rfl⟩ | ⟨rfl, rfl⟩
  · go_enter Tryd.func15, Tryd.ntmps15
    go_wp2_with fail
    obtain ⟨W, hW, b0, b1, b2, hbW, hsz⟩ := boxes3 w #[.bool true, .slice A n c] #[.bool false, .slice A' n' c'] #[.bool false, .slice none 0 0] 32 32 32
    rw [hW]
    clear hW
    refine (HC.out W hbW).mono ?_
    rintro e w0 ⟨rfl, j, rfl⟩
    replace hbW : Below w.heap.size w (W.drewN j) := below_drewN hbW j
    replace b0 : Box (W.drewN j) _ _ _ := b0
    replace b1 : Box (W.drewN j) _ _ _ := b1
    replace b2 : Box (W.drewN j) _ _ _ := b2
    generalize W.drewN j = X at *
    have c0 := b0.cell 0 _ rfl
    have c1 := b0.cell 1 _ rfl
    have d0 := b1.cell 0 _ rfl
    have d1 := b1.cell 1 _ rfl
    go_wp2_with fail
    have HD := HN.out X.drew (hbW.trans ((drawn_below X).mono hbW.size))
    go_region_held3 (fun V => V.cell? ⟨w.heap.size, 0, none⟩ = some (.bool true) ∧ V.cell? ⟨w.heap.size, 1, none⟩ = some (.slice A n c) ∧ V.cell? ⟨w.heap.size + 1, 0, none⟩ = some (.bool false) ∧ V.cell? ⟨w.heap.size + 1, 1, none⟩ = some (.slice A' n' c')) (first | exact KC | exact HC | exact (And.intro (b0.cell 0 _ rfl) (And.intro (b0.cell 1 _ rfl) (And.intro (b1.cell 0 _ rfl) (b1.cell 1 _ rfl)))) | exact ⟨(p0.far (by omega) _ _).cell 0 _ rfl, (p0.far (by omega) _ _).cell 1 _ rfl, (p1.far (by omega) _ _).cell 0 _ rfl, (p1.far (by omega) _ _).cell 1 _ rfl⟩ | go_keep)
      (first
        | (go_at_call 38; refine HD.mono ?_; rintro e w1 ⟨B, k, d, rfl, hN, hb1⟩; have hV : NV w1 (.slice B k d) (y - x) (max L L' + 1) := ⟨hN, HBD.out⟩; have hb1' := below_drawn hb1; have q0 := b0.below hb1'; have q1 := b1.below hb1'; have q2 := b2.below hb1'; have HC := (And.intro (q0.cell 0 _ rfl) (And.intro (q0.cell 1 _ rfl) (And.intro (q1.cell 0 _ rfl) (q1.cell 1 _ rfl)))))
        | (go_at_call 23; refine (nmake_v _ hV HZ.out).mono ?_; rintro e w2 ⟨t, rfl, hI, hb2⟩; have p0 := q0.below hb2; have p1 := q1.below hb2; have p2 := q2.below hb2; have KC := (And.intro (p0.cell 0 _ rfl) (And.intro (p0.cell 1 _ rfl) (And.intro (p1.cell 0 _ rfl) (p1.cell 1 _ rfl)))); have r0 := p2.cell 0 _ rfl; have r1 := p2.cell 1 _ rfl; have f0 := p2.frozen 0; have f1 := p2.frozen 1; have hbT := hbW.trans ((hb1'.trans (hb2.mono hb1'.size)).mono hbW.size))
      )
    have hF := hI.stored p2 (notInt_box _ _ _ _) (.bool t) (.slice B k d)
    have hbf := below_stored (g := w.heap.size + 1 + 1) hbT (by omega) (.bool t) (.slice B k d)
    have hbx := p2.stored (.bool t) (.slice B k d)
    go_wp2_with fail
    refine bodyPost_ret (ret_intN rfl rfl hbx) rfl ?_
    exact ⟨t, B, k, d, rfl, hF, hbf⟩
  · go_enter Tryd.func15, Tryd.ntmps15
    go_wp2_with fail
    obtain ⟨W, hW, b0, b1, b2, hbW, hsz⟩ := boxes3 w #[.bool false, .slice A n c] #[.bool true, .slice A' n' c'] #[.bool false, .slice none 0 0] 32 32 32
    rw [hW]
    clear hW
    refine (HC.out W hbW).mono ?_
    rintro e w0 ⟨rfl, j, rfl⟩
    replace hbW : Below w.heap.size w (W.drewN j) := below_drewN hbW j
    replace b0 : Box (W.drewN j) _ _ _ := b0
    replace b1 : Box (W.drewN j) _ _ _ := b1
    replace b2 : Box (W.drewN j) _ _ _ := b2
    generalize W.drewN j = X at *
    have c0 := b0.cell 0 _ rfl
    have c1 := b0.cell 1 _ rfl
    have d0 := b1.cell 0 _ rfl
    have d1 := b1.cell 1 _ rfl
    go_wp2_with fail
    have HD := HN.out X.drew (hbW.trans ((drawn_below X).mono hbW.size))
    go_region_held3 (fun V => V.cell? ⟨w.heap.size, 0, none⟩ = some (.bool false) ∧ V.cell? ⟨w.heap.size, 1, none⟩ = some (.slice A n c) ∧ V.cell? ⟨w.heap.size + 1, 0, none⟩ = some (.bool true) ∧ V.cell? ⟨w.heap.size + 1, 1, none⟩ = some (.slice A' n' c')) (first | exact KC | exact HC | exact (And.intro (b0.cell 0 _ rfl) (And.intro (b0.cell 1 _ rfl) (And.intro (b1.cell 0 _ rfl) (b1.cell 1 _ rfl)))) | exact ⟨(p0.far (by omega) _ _).cell 0 _ rfl, (p0.far (by omega) _ _).cell 1 _ rfl, (p1.far (by omega) _ _).cell 0 _ rfl, (p1.far (by omega) _ _).cell 1 _ rfl⟩ | go_keep)
      (first
        | (go_at_call 38; refine HD.mono ?_; rintro e w1 ⟨B, k, d, rfl, hN, hb1⟩; have hV : NV w1 (.slice B k d) (y - x) (max L L' + 1) := ⟨hN, HBD.out⟩; have hb1' := below_drawn hb1; have q0 := b0.below hb1'; have q1 := b1.below hb1'; have q2 := b2.below hb1'; have HC := (And.intro (q0.cell 0 _ rfl) (And.intro (q0.cell 1 _ rfl) (And.intro (q1.cell 0 _ rfl) (q1.cell 1 _ rfl)))))
        | (go_at_call 23; refine (nmake_v _ hV HZ.out).mono ?_; rintro e w2 ⟨t, rfl, hI, hb2⟩; have p0 := q0.below hb2; have p1 := q1.below hb2; have p2 := q2.below hb2; have KC := (And.intro (p0.cell 0 _ rfl) (And.intro (p0.cell 1 _ rfl) (And.intro (p1.cell 0 _ rfl) (p1.cell 1 _ rfl)))); have r0 := p2.cell 0 _ rfl; have r1 := p2.cell 1 _ rfl; have f0 := p2.frozen 0; have f1 := p2.frozen 1; have hbT := hbW.trans ((hb1'.trans (hb2.mono hb1'.size)).mono hbW.size))
      )
    have hF := hI.stored p2 (notInt_box _ _ _ _) (.bool t) (.slice B k d)
    have hbf := below_stored (g := w.heap.size + 1 + 1) hbT (by omega) (.bool t) (.slice B k d)
    have hbx := p2.stored (.bool t) (.slice B k d)
    go_wp2_with fail
    refine bodyPost_ret (ret_intN rfl rfl hbx) rfl ?_
    exact ⟨t, B, k, d, rfl, hF, hbf⟩
theorem nadd_v (h : NI w s (.slice A n c) z L) (h' : NI w s' (.slice A' n' c') z' L') (hL : L ≤ 1000000) (hL' : L' ≤ 1000000) :
    Calls Tryd.prog 15 #[.agg #[.bool s, .slice A n c], .agg #[.bool s', .slice A' n' c']] w fun e w' => ∃ t B k d, e = .returned (.agg #[.bool t, .slice B k d]) ∧ NI w' t (.slice B k d) (z + z') (max L L' + 1) ∧ Below w.heap.size w w' := by
  have e1 := h.ri.sg
  have e2 := h'.ri.sg
  by_cases hs : s = s'
  · subst hs
    exact nadd_same s h.1 h'.1 hL hL' (by cases s <;> simp only [sg_false, sg_true] at e1 e2 ⊢ <;> omega)
  · have hs' : (s = true ∧ s' = false) ∨ (s = false ∧ s' = true) := by clear e1 e2 h h'; cases s <;> cases s' <;> simp_all
    rcases Nat.lt_or_ge z.natAbs z'.natAbs with hlt | hle
    · refine nadd_lt hs' h.1 h'.1 hL' hlt ?_
      rcases hs' with ⟨rfl, rfl⟩ | ⟨rfl, rfl⟩
      · rw [sg_true] at e1; rw [sg_false] at e2 ⊢; omega
      · rw [sg_false] at e1; rw [sg_true] at e2 ⊢; omega
    · refine nadd_ge hs' h.1 h'.1 hL hle ?_
      rcases hs' with ⟨rfl, rfl⟩ | ⟨rfl, rfl⟩
      · rw [sg_true] at e1 ⊢; rw [sg_false] at e2; omega
      · rw [sg_false] at e1 ⊢; rw [sg_true] at e2; omega
theorem ton_v (h : Num w (.slice A n c) x) (hx : x < Bs L) (hL : L ≤ 1000000) :
    Calls Tryd.prog 13 #[.slice A n c] w fun e w' => ∃ B k d, e = .returned (.slice B k d) ∧ NV w' (.slice B k d) x L ∧ Below w.heap.size w w' := by
  refine (ton_any h).mono ?_
  rintro e w1 ⟨v, rfl, hg, hb⟩
  obtain ⟨B, d, rfl⟩ := hg.form
  have hl := digs_length_le hx
  exact ⟨B, _, d, rfl, ⟨hg.raw (by omega), hx⟩, hb⟩
set_option maxRecDepth 100000 in
theorem toI_v (h : NI w s (.slice A n c) z L) (hL : L ≤ 1000000) :
    Calls Tryd.prog 34 #[.agg #[.bool s, .slice A n c]] w fun e w' => ∃ B k d, e = .returned (.agg #[.bool s, .slice B k d]) ∧ NI w' s (.slice B k d) z L ∧ Below w.heap.size w w' := by
  have hs := h.2
  have hN := h.1
  have HS := Lib.hid hs
  clear h hs
  go_enter Tryd.func34, Tryd.ntmps34
  go_wp2_with fail
  obtain ⟨W, hW, b0, b1, hbW, hsz⟩ := boxes2 w #[.bool s, .slice A n c] #[.bool false, .slice none 0 0] 32 28
  rw [hW]
  clear hW
  have hr1 := Num.below hN.1 (hbW.trans ((drawn_below W).mono hbW.size))
  go_region_held3 (fun V => V.cell? ⟨w.heap.size, 0, none⟩ = some (.bool s) ∧ V.cell? ⟨w.heap.size, 1, none⟩ = some (.slice A n c)) (first | exact HC | exact (And.intro (b0.cell 0 _ rfl) (b0.cell 1 _ rfl)) | exact ⟨(q0.far (by omega) _ _).cell 0 _ rfl, (q0.far (by omega) _ _).cell 1 _ rfl⟩ | go_keep)
    (first
      | (go_at_call 13; refine (ton_v hr1 hN.2 hL).mono ?_; rintro e w1 ⟨B, k, d, rfl, hV, hb1⟩; have hb1' := below_drawn hb1; have q0 := b0.below hb1'; have q1 := b1.below hb1'; have r0 := q1.cell 0 _ rfl; have r1 := q1.cell 1 _ rfl; have f0 := q1.frozen 0; have f1 := q1.frozen 1; have hbT := hbW.trans (hb1'.mono hbW.size); have HC := (And.intro (q0.cell 0 _ rfl) (q0.cell 1 _ rfl)))
    )
  have hF := hV.stored q1 (notInt_box _ _ _ _) (.bool s) (.slice B k d)
  have hbf := below_stored (g := w.heap.size + 1) hbT (by omega) (.bool s) (.slice B k d)
  have hbx := q1.stored (.bool s) (.slice B k d)
  go_wp2_with fail
  refine bodyPost_ret (ret_int rfl rfl hbx) rfl ?_
  exact ⟨B, k, d, rfl, ⟨hF, HS.out⟩, hbf⟩
set_option maxRecDepth 100000 in
theorem same2_v (h : NI w s (.slice A n c) z L) (h' : NI w s' (.slice A' n' c') z' L') (he : z = z') (hL : L' ≤ 1000000) :
    Calls Tryd.prog 8 #[.agg #[.bool s, .slice A n c], .agg #[.bool s', .slice A' n' c']] w fun e w' => e = .returned (.bool true) ∧ Below w.heap.size w w' := by
  go_enter Tryd.func8, Tryd.ntmps8
  go_wp2_with fail
  obtain ⟨W, hW, b0, b1, hbW, hsz⟩ := boxes2 w #[.bool s, .slice A n c] #[.bool s', .slice A' n' c'] 28 32
  rw [hW]
  clear hW
  have hx := h.below (hbW.trans ((drawn_below W).mono hbW.size))
  have hy := h'.below (hbW.trans ((drawn_below W).mono hbW.size))
  have hD := drawn_below W
  go_region_held3 (fun V => V.cell? ⟨w.heap.size, 0, none⟩ = some (.bool s) ∧ V.cell? ⟨w.heap.size, 1, none⟩ = some (.slice A n c) ∧ V.cell? ⟨w.heap.size + 1, 0, none⟩ = some (.bool s') ∧ V.cell? ⟨w.heap.size + 1, 1, none⟩ = some (.slice A' n' c')) (first | exact K2 | exact K1 | exact (And.intro (b0.cell 0 _ rfl) (And.intro (b0.cell 1 _ rfl) (And.intro (b1.cell 0 _ rfl) (b1.cell 1 _ rfl)))) | go_keep)
    (first
      | (go_at_call 34; refine (toI_v hy hL).mono ?_; rintro e w1 ⟨B, k, d, rfl, hT, hb1⟩; have hx1 := hx.below hb1; have q0 := Box.below (w := W.drew) b0 hb1; have q1 := Box.below (w := W.drew) b1 hb1; have K1 := (And.intro (q0.cell 0 _ rfl) (And.intro (q0.cell 1 _ rfl) (And.intro (q1.cell 0 _ rfl) (q1.cell 1 _ rfl)))))
      | (go_at_call 33; refine (sameI_v hx1 hT he).mono ?_; rintro e w2 ⟨rfl, hb2⟩; have p0 := q0.below hb2; have p1 := q1.below hb2; have K2 := (And.intro (p0.cell 0 _ rfl) (And.intro (p0.cell 1 _ rfl) (And.intro (p1.cell 0 _ rfl) (p1.cell 1 _ rfl)))))
    )
  have hbf := hbW.trans ((hD.trans ((hb1.trans (hb2.mono hb1.size)).mono hD.size)).mono hbW.size)
  go_wp2_with fail
  go_returns
  exact ⟨rfl, hbf⟩
end
end Go.Proofs.YtkhfadfjkmhpgaaDoor
