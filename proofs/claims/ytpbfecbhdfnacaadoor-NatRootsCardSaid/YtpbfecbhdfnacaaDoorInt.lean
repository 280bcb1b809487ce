/-
  The contracts of package integer, over values with a sign.
-/
import Derived.Test.YtpbfecbhdfnacaaDoorDivMod
import Derived.Test.YtpbfecbhdfnacaaDoorShift2
import Derived.Test.YtpbfecbhdfnacaaDoorBox
namespace Go.Proofs.YtpbfecbhdfnacaaDoor
open Go.RowKit

/-- The integer with a sign and an absolute value. -/
def sg (s : Bool) (x : Nat) : Int := if s then -(x : Int) else (x : Int)
theorem sg_true (x : Nat) : sg true x = -(x : Int) := rfl
theorem sg_false (x : Nat) : sg false x = (x : Int) := rfl
theorem sg_abs (s : Bool) (x : Nat) : (sg s x).natAbs = x := by cases s <;> simp [sg]
theorem sg_neg (s : Bool) (x : Nat) : decide (sg s x < 0) = (s && decide (0 < x)) := by
  cases s
  · simp [sg]
  · simp [sg]
theorem sg_self (z : Int) : sg (decide (z < 0)) z.natAbs = z := by
  unfold sg
  split <;> simp_all <;> omega

/-- s and v read as z, with at most L digits; neither need be in normal form. -/
def RI (w : World) (s : Bool) (v : Value) (z : Int) (L : Nat) : Prop := ∃ x, RV w v x L ∧ z = sg s x
/-- s and v read as z in normal form, with at most L digits. -/
def NI (w : World) (s : Bool) (v : Value) (z : Int) (L : Nat) : Prop := NV w v z.natAbs L ∧ s = decide (z < 0)
/-- The same in memory that was made after block b. -/
def GI (w : World) (b : Nat) (s : Bool) (v : Value) (z : Int) (L : Nat) : Prop := ∃ x, GV w b v x L ∧ z = sg s x

section
variable {w w' : World} {v : Value} {s : Bool} {z : Int} {L b : Nat}
theorem NI.ri (h : NI w s v z L) : RI w s v z L := ⟨z.natAbs, h.1.rv, by rw [h.2, sg_self]⟩
theorem NI.below (h : NI w s v z L) (hb : Below w.heap.size w w') : NI w' s v z L := ⟨h.1.below hb, h.2⟩
theorem RI.below (h : RI w s v z L) (hb : Below w.heap.size w w') : RI w' s v z L := by
  obtain ⟨x, h1, h2⟩ := h; exact ⟨x, h1.below hb, h2⟩
theorem RI.rv (h : RI w s v z L) : RV w v z.natAbs L := by
  obtain ⟨x, h1, h2⟩ := h; rw [h2, sg_abs]; exact h1
theorem RI.sg (h : RI w s v z L) : z = sg s z.natAbs := by
  obtain ⟨x, h1, h2⟩ := h; rw [h2, sg_abs]
theorem GI.keep (h : GI w b s v z L) (hb : Below w.heap.size w w') : GI w' b s v z L := by
  obtain ⟨x, h1, h2⟩ := h; exact ⟨x, h1.keep hb, h2⟩
theorem GI.other (h : GI w b s v z L) (hb : w.grownBy w' (some b)) : GI w' b s v z L := by
  obtain ⟨x, h1, h2⟩ := h; exact ⟨x, h1.other hb, h2⟩
theorem GI.ri (h : GI w b s v z L) (hL : L ≤ 1000000) : RI w s v z L := by
  obtain ⟨x, h1, h2⟩ := h; exact ⟨x, h1.rv hL, h2⟩
theorem NV.ni (h : NV w v z.natAbs L) : NI w (decide (z < 0)) v z L := ⟨h, rfl⟩
theorem RI.flip (h : RI w s v z L) : RI w (!s) v (-z) L := by
  obtain ⟨x, h1, h2⟩ := h
  refine ⟨x, h1, ?_⟩
  rw [h2]; cases s <;> simp [sg_true, sg_false]
end

section
variable {A A' : Option Addr} {n n' c c' x y L L' : Nat} {s s' : Bool} {z z' : Int} {w : World}
/-- The sign that signed gives. -/
theorem signed_any (s : Bool) (h : NV w (.slice A n c) x L) :
    Calls Tryd.prog 63 #[.bool s, .slice A n c] w fun e w' => e = .returned (.agg #[.bool (decide (sg s x < 0)), .slice A n c]) ∧ Below w.heap.size w w' := by
  have hn := (Raw.cap h.1).1
  rw [sg_neg]
  rcases Nat.eq_zero_or_pos x with rfl | h0
  · have hn0 : n = 0 := by rw [digs_zero] at hn; exact hn
    subst hn0
    clear h hn
    cases s
    all_goals
      go_enter Tryd.func63, Tryd.ntmps63
      go_wp2_with fail
      go_returns
      exact ⟨rfl, below_alloc w _⟩
  · have hnp : 0 < n := by rw [hn]; exact digs_length_pos h0
    have hd : decide (0 < x) = true := decide_eq_true h0
    rw [hd]
    clear h hn hd h0
    cases s
    all_goals
      go_enter Tryd.func63, Tryd.ntmps63
      go_wp2_with fail
      go_returns
      exact ⟨rfl, below_alloc w _⟩
/-- signed of an absolute value in normal form. -/
theorem signed_v (s : Bool) (h : NV w (.slice A n c) x L) (hz : sg s x = z) :
    Calls Tryd.prog 63 #[.bool s, .slice A n c] w fun e w' => ∃ t, e = .returned (.agg #[.bool t, .slice A n c]) ∧ NI w' t (.slice A n c) z L ∧ Below w.heap.size w w' := by
  refine (signed_any s h).mono ?_
  rintro e w' ⟨rfl, hb⟩
  subst hz
  exact ⟨_, rfl, ⟨by rw [sg_abs]; exact h.below hb, rfl⟩, hb⟩
theorem NI.stored {g : Nat} {t : TypeId} {cs : Array Value} {v : Value} (h : NI w s v z L) (hb : Box w g cs t) (hc : cs.all notInt = true) (u0 u1 : Value) : NI ((w.setCell ⟨g, 0, none⟩ u0).setCell ⟨g, 1, none⟩ u1) s v z L :=
  ⟨h.1.stored hb hc u0 u1, h.2⟩
set_option maxRecDepth 100000 in
theorem ineg_v (h : RI w s (.slice A n c) z L) (hL : L ≤ 1000000) :
    Calls Tryd.prog 24 #[.agg #[.bool s, .slice A n c]] w fun e w' => ∃ t B k d, e = .returned (.agg #[.bool t, .slice B k d]) ∧ NI w' t (.slice B k d) (-z) L ∧ Below w.heap.size w w' := by
  have hs := h.flip.sg
  have hr := h.rv
  rw [Int.natAbs_neg] at hs
  have HS := Lib.hid hs
  clear h hs
  go_enter Tryd.func24, Tryd.ntmps24
  go_wp2_with fail
  obtain ⟨W, hW, b0, b1, hbW, hsz⟩ := boxes2 w #[.bool s, .slice A n c] #[.bool false, .slice none 0 0] 40 40
  rw [hW]
  have c0 := b0.cell 0 _ rfl
  have c1 := b0.cell 1 _ rfl
  have hr1 := hr.below hbW
  clear hW hr
  go_region_held3 (fun V => V.cell? ⟨w.heap.size, 0, none⟩ = some (.bool s) ∧ V.cell? ⟨w.heap.size, 1, none⟩ = some (.slice A n c)) (first | exact ⟨c0, c1⟩ | exact ⟨HC0, HC1⟩ | exact ⟨KC0, KC1⟩ | go_keep)
    (first
      | (go_at_call 41; refine (norm_v (w := W.drew) hr1 hL).mono ?_; rintro e w1 ⟨B, k, d, rfl, hN, hb1⟩; have q0 := Box.below (w := W.drew) b0 hb1; have q1 := Box.below (w := W.drew) b1 hb1; have HC0 := q0.cell 0 _ rfl; have HC1 := q0.cell 1 _ rfl)
      | (go_at_call 63; refine (signed_v (!s) hN HS.out.symm).mono ?_; rintro e w2 ⟨t, rfl, hI, hb2⟩; have p0 := q0.below hb2; have p1 := q1.below hb2; have KC0 := p0.cell 0 _ rfl; have KC1 := p0.cell 1 _ rfl; have r0 := p1.cell 0 _ rfl; have r1 := p1.cell 1 _ rfl; have f0 := p1.frozen 0; have f1 := p1.frozen 1))
  have hI2 := hI.stored p1 (notInt_box _ _ _ _) (.bool t) (.slice B k d)
  have hbf : Below w.heap.size w ((w2.setCell ⟨w.heap.size + 1, 0, none⟩ (.bool t)).setCell ⟨w.heap.size + 1, 1, none⟩ (.slice B k d)) := below_stored (hbW.trans (((below_drawn hb1).trans (hb2.mono hb1.size)).mono hbW.size)) (by omega) _ _
  have hbx := p1.stored (.bool t) (.slice B k d)
  go_wp2_with fail
  refine bodyPost_ret (ret_int rfl rfl hbx) rfl ?_
  exact ⟨t, B, k, d, rfl, hI2, hbf⟩
set_option maxRecDepth 100000 in
theorem iabs_v (h : RI w s (.slice A n c) z L) (hL : L ≤ 1000000) :
    Calls Tryd.prog 26 #[.agg #[.bool s, .slice A n c]] w fun e w' => ∃ B k d, e = .returned (.slice B k d) ∧ NV w' (.slice B k d) z.natAbs L ∧ Below w.heap.size w w' := by
  have hr := h.rv
  clear h
  go_enter Tryd.func26, Tryd.ntmps26
  go_wp2_with fail
  obtain ⟨W, hW, b0, hbW, hsz⟩ := boxes1 w #[.bool s, .slice A n c] 40
  rw [hW]
  refine (norm_v (hr.below hbW) hL).mono ?_
  rintro e w' ⟨B, k, d, rfl, hN, hb⟩
  have hbf := hbW.trans (hb.mono hbW.size)
  go_wp2_with fail
  go_returns
  exact ⟨B, k, d, rfl, hN, hbf⟩
theorem bitsN_pos {x : Nat} (h : 0 < x) : 0 < bitsN x := by
  unfold bitsN topBits
  rw [if_neg (by omega)]
  have h1 := le_of_digs_length h
  have h2 := lt_of_digs_length (Nat.le_refl (digs x).length)
  have h3 := digs_length_pos h
  obtain ⟨m, hm⟩ : ∃ m, (digs x).length = m + 1 := ⟨(digs x).length - 1, by omega⟩
  rw [hm, Nat.add_sub_cancel] at h1 ⊢
  rw [hm, Bs_succ] at h2
  have h4 : 0 < (digs x).getD m 0 := by
    rw [digs_digit, Nat.mod_eq_of_lt (Nat.div_lt_of_lt_mul (by rw [Nat.mul_comm]; exact h2))]
    exact Nat.div_pos h1 (Bs_pos m)
  have h5 : (digs x).getD m 0 < 4294967296 := okD_getD (okD_digs x) m
  have h6 := Lib.bitLen_half ((digs x).getD m 0) (by omega) (by omega)
  omega
/-- The sign of an integer, as an int. -/
theorem isign_v (h : RI w s (.slice A n c) z L) :
    Calls Tryd.prog 82 #[.agg #[.bool s, .slice A n c]] w fun e w' => e = .returned (.int .i64 z.sign) ∧ Below w.heap.size w w' := by
  have hr := h.rv
  have hs := h.sg
  rcases Nat.eq_zero_or_pos z.natAbs with h0 | h0
  · have hz : z = 0 := by omega
    have hbt : bitsN z.natAbs = 0 := by rw [h0]; rfl
    subst hz
    have HB := Lib.hid hbt
    clear h hs h0 hbt
    go_enter Tryd.func82, Tryd.ntmps82
    go_wp2_with fail
    obtain ⟨W, hW, b0, hbW, hsz⟩ := boxes1 w #[.bool s, .slice A n c] 40
    rw [hW]
    refine (bits_v (hr.below hbW)).mono ?_
    rintro e w' ⟨rfl, hb⟩
    rw [HB.out]
    have hbf := hbW.trans (hb.mono hbW.size)
    go_wp2_with fail
    go_returns
    exact ⟨rfl, hbf⟩
  · have hbt : 0 < bitsN z.natAbs := bitsN_pos h0
    generalize hbn : bitsN z.natAbs = bn at hbt
    have HBN := Lib.hid hbn
    have hb0 : ((bn : Int) == 0) = false := by rw [beq_eq_false_iff_ne]; omega
    have HS := Lib.hid hs
    have hzp : z ≠ 0 := by omega
    clear h hs hbn hbt h0
    cases s
    · have hsg : z.sign = 1 := Int.sign_eq_one_of_pos (by have := HS.out; rw [sg_false] at this; omega)
      have HG := Lib.hid hsg
      clear hsg hzp
      go_enter Tryd.func82, Tryd.ntmps82
      go_wp2_with fail
      obtain ⟨W, hW, b0, hbW, hsz⟩ := boxes1 w #[.bool false, .slice A n c] 40
      rw [hW]
      refine (bits_v (hr.below hbW)).mono ?_
      rintro e w' ⟨rfl, hb⟩
      rw [HBN.out]
      have hbf := hbW.trans (hb.mono hbW.size)
      have c0 := (b0.below hb).cell 0 _ rfl
      go_wp2_with fail
      go_returns
      exact ⟨by rw [HG.out]; rfl, hbf⟩
    · have hsg : z.sign = -1 := Int.sign_eq_neg_one_of_neg (by have := HS.out; rw [sg_true] at this; omega)
      have HG := Lib.hid hsg
      clear hsg hzp
      go_enter Tryd.func82, Tryd.ntmps82
      go_wp2_with fail
      obtain ⟨W, hW, b0, hbW, hsz⟩ := boxes1 w #[.bool true, .slice A n c] 40
      rw [hW]
      refine (bits_v (hr.below hbW)).mono ?_
      rintro e w' ⟨rfl, hb⟩
      rw [HBN.out]
      have hbf := hbW.trans (hb.mono hbW.size)
      have c0 := (b0.below hb).cell 0 _ rfl
      go_wp2_with fail
      go_returns
      exact ⟨by rw [HG.out]; rfl, hbf⟩
end
end Go.Proofs.YtpbfecbhdfnacaaDoor
