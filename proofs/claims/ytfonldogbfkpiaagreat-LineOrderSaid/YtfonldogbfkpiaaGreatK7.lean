/-
  Int, IntC, Int2, Int2b, Int3 in one text.
-/
import Derived.Test.YtfonldogbfkpiaaGreatDivMod
import Derived.Test.YtfonldogbfkpiaaGreatShift2
import Derived.Test.YtfonldogbfkpiaaGreatBox
import Derived.Test.YtfonldogbfkpiaaGreatK3
import Derived.Test.YtfonldogbfkpiaaGreatForms
namespace Go.Proofs.YtfonldogbfkpiaaGreat
open Go.RowKit

/-- The integer with a sign and an absolute value. -/
def sg (s : Bool) (x : Nat) : Int := if s then -(x : Int) else (x : Int)
theorem sg_true (x : Nat) : sg true x = -(x : Int) := rfl
theorem sg_false (x : Nat) : sg false x = (x : Int) := rfl
theorem sg_abs (s : Bool) (x : Nat) : (sg s x).natAbs = x := by cases s <;> simp [sg]
theorem sg_neg (s : Bool) (x : Nat) : decide (sg s x < 0) = (s && decide (0 < x)) := by
  cases s
  · simp [sg]
  · simp [sg]
theorem sg_self (z : Int) : sg (decide (z < 0)) z.natAbs = z := by
  unfold sg
  split <;> simp_all <;> omega

/-- s and v read as z, with at most L digits; neither need be in normal form. -/
def RI (w : World) (s : Bool) (v : Value) (z : Int) (L : Nat) : Prop := ∃ x, RV w v x L ∧ z = sg s x
/-- s and v read as z in normal form, with at most L digits. -/
def NI (w : World) (s : Bool) (v : Value) (z : Int) (L : Nat) : Prop := NV w v z.natAbs L ∧ s = decide (z < 0)
/-- The same in memory that was made after block b. -/
def GI (w : World) (b : Nat) (s : Bool) (v : Value) (z : Int) (L : Nat) : Prop := ∃ x, GV w b v x L ∧ z = sg s x

section
variable {w w' : World} {v : Value} {s : Bool} {z : Int} {L b : Nat}
theorem NI.ri (h : NI w s v z L) : RI w s v z L := ⟨z.natAbs, h.1.rv, by rw [h.2, sg_self]⟩
theorem NI.below (h : NI w s v z L) (hb : Below w.heap.size w w') : NI w' s v z L := ⟨h.1.below hb, h.2⟩
theorem RI.below (h : RI w s v z L) (hb : Below w.heap.size w w') : RI w' s v z L := by
  obtain ⟨x, h1, h2⟩ := h; exact ⟨x, h1.below hb, h2⟩
theorem RI.rv (h : RI w s v z L) : RV w v z.natAbs L := by
  obtain ⟨x, h1, h2⟩ := h; rw [h2, sg_abs]; exact h1
theorem RI.sg (h : RI w s v z L) : z = sg s z.natAbs := by
  obtain ⟨x, h1, h2⟩ := h; rw [h2, sg_abs]
theorem GI.keep (h : GI w b s v z L) (hb : Below w.heap.size w w') : GI w' b s v z L := by
  obtain ⟨x, h1, h2⟩ := h; exact ⟨x, h1.keep hb, h2⟩
theorem GI.other (h : GI w b s v z L) (hb : w.grownBy w' (some b)) : GI w' b s v z L := by
  obtain ⟨x, h1, h2⟩ := h; exact ⟨x, h1.other hb, h2⟩
theorem GI.ri (h : GI w b s v z L) (hL : L ≤ 1000000) : RI w s v z L := by
  obtain ⟨x, h1, h2⟩ := h; exact ⟨x, h1.rv hL, h2⟩
theorem NV.ni (h : NV w v z.natAbs L) : NI w (decide (z < 0)) v z L := ⟨h, rfl⟩
theorem RI.flip (h : RI w s v z L) : RI w (!s) v (-z) L := by
  obtain ⟨x, h1, h2⟩ := h
  refine ⟨x, h1, ?_⟩
  rw [h2]; cases s <;> simp [sg_true, sg_false]
end

section
variable {A A' : Option Addr} {n n' c c' x y L L' : Nat} {s s' : Bool} {z z' : Int} {w : World}
/-- The sign that signed gives. -/
theorem signed_any (s : Bool) (h : NV w (.slice A n c) x L) :
    Calls Tryz.prog 77 #[.bool s, .slice A n c] w fun e w' => e = .returned (.agg #[.bool (decide (sg s x < 0)), .slice A n c]) ∧ Below w.heap.size w w' := by
  have hn := (Raw.cap h.1).1
  rw [sg_neg]
  rcases Nat.eq_zero_or_pos x with rfl | h0
  · have hn0 : n = 0 := by rw [digs_zero] at hn; exact hn
    subst hn0
    clear h hn
    cases s
    all_goals
      go_enter Tryz.func77, Tryz.ntmps77
      go_wp2_with fail
      go_returns
      exact ⟨rfl, below_alloc w _⟩
  · have hnp : 0 < n := by rw [hn]; exact digs_length_pos h0
    have hd : decide (0 < x) = true := decide_eq_true h0
    rw [hd]
    clear h hn hd h0
    cases s
    all_goals
      go_enter Tryz.func77, Tryz.ntmps77
      go_wp2_with fail
      go_returns
      exact ⟨rfl, below_alloc w _⟩
/-- signed of an absolute value in normal form. -/
theorem signed_v (s : Bool) (h : NV w (.slice A n c) x L) (hz : sg s x = z) :
    Calls Tryz.prog 77 #[.bool s, .slice A n c] w fun e w' => ∃ t, e = .returned (.agg #[.bool t, .slice A n c]) ∧ NI w' t (.slice A n c) z L ∧ Below w.heap.size w w' := by
  refine (signed_any s h).mono ?_
  rintro e w' ⟨rfl, hb⟩
  subst hz
  exact ⟨_, rfl, ⟨by rw [sg_abs]; exact h.below hb, rfl⟩, hb⟩
theorem NI.stored {g : Nat} {t : TypeId} {cs : Array Value} {v : Value} (h : NI w s v z L) (hb : Box w g cs t) (hc : cs.all notInt = true) (u0 u1 : Value) : NI ((w.setCell ⟨g, 0, none⟩ u0).setCell ⟨g, 1, none⟩ u1) s v z L :=
  ⟨h.1.stored hb hc u0 u1, h.2⟩
set_option maxRecDepth 100000 in
theorem inorm_v (h : RI w s (.slice A n c) z L) (hL : L ≤ 1000000) :
    Calls Tryz.prog 53 #[.agg #[.bool s, .slice A n c]] w fun e w' => ∃ t B k d, e = .returned (.agg #[.bool t, .slice B k d]) ∧ NI w' t (.slice B k d) z L ∧ Below w.heap.size w w' := by
  have hs := h.sg
  have hr := h.rv
  have HS := Lib.hid hs
  clear h hs
  go_enter Tryz.func53, Tryz.ntmps53
  go_wp2_with fail
  obtain ⟨W, hW, b0, b1, hbW, hsz⟩ := boxes2 w #[.bool s, .slice A n c] #[.bool false, .slice none 0 0] 28 28
  rw [hW]
  have c0 := b0.cell 0 _ rfl
  have c1 := b0.cell 1 _ rfl
  have hr1 := hr.below hbW
  clear hW hr
  go_region_held3 (fun V => V.cell? ⟨w.heap.size, 0, none⟩ = some (.bool s) ∧ V.cell? ⟨w.heap.size, 1, none⟩ = some (.slice A n c)) (first | exact ⟨c0, c1⟩ | exact ⟨HC0, HC1⟩ | exact ⟨KC0, KC1⟩ | go_keep)
    (first
      | (go_at_call 79; refine (norm_v (w := W.drew) hr1 hL).mono ?_; rintro e w1 ⟨B, k, d, rfl, hN, hb1⟩; have q0 := Box.below (w := W.drew) b0 hb1; have q1 := Box.below (w := W.drew) b1 hb1; have HC0 := q0.cell 0 _ rfl; have HC1 := q0.cell 1 _ rfl)
      | (go_at_call 77; refine (signed_v s hN HS.out.symm).mono ?_; rintro e w2 ⟨t, rfl, hI, hb2⟩; have p0 := q0.below hb2; have p1 := q1.below hb2; have KC0 := p0.cell 0 _ rfl; have KC1 := p0.cell 1 _ rfl; have r0 := p1.cell 0 _ rfl; have r1 := p1.cell 1 _ rfl; have f0 := p1.frozen 0; have f1 := p1.frozen 1))
  have hI2 := hI.stored p1 (notInt_box _ _ _ _) (.bool t) (.slice B k d)
  have hbf : Below w.heap.size w ((w2.setCell ⟨w.heap.size + 1, 0, none⟩ (.bool t)).setCell ⟨w.heap.size + 1, 1, none⟩ (.slice B k d)) := below_stored (hbW.trans (((below_drawn hb1).trans (hb2.mono hb1.size)).mono hbW.size)) (by omega) _ _
  have hbx := p1.stored (.bool t) (.slice B k d)
  go_wp2_with fail
  refine bodyPost_ret (ret_int rfl rfl hbx) rfl ?_
  exact ⟨t, B, k, d, rfl, hI2, hbf⟩
set_option maxRecDepth 100000 in
theorem ineg_v (h : RI w s (.slice A n c) z L) (hL : L ≤ 1000000) :
    Calls Tryz.prog 50 #[.agg #[.bool s, .slice A n c]] w fun e w' => ∃ t B k d, e = .returned (.agg #[.bool t, .slice B k d]) ∧ NI w' t (.slice B k d) (-z) L ∧ Below w.heap.size w w' := by
  have hs := h.flip.sg
  have hr := h.rv
  rw [Int.natAbs_neg] at hs
  have HS := Lib.hid hs
  clear h hs
  go_enter Tryz.func50, Tryz.ntmps50
  go_wp2_with fail
  obtain ⟨W, hW, b0, b1, hbW, hsz⟩ := boxes2 w #[.bool s, .slice A n c] #[.bool false, .slice none 0 0] 28 28
  rw [hW]
  have c0 := b0.cell 0 _ rfl
  have c1 := b0.cell 1 _ rfl
  have hr1 := hr.below hbW
  clear hW hr
  go_region_held3 (fun V => V.cell? ⟨w.heap.size, 0, none⟩ = some (.bool s) ∧ V.cell? ⟨w.heap.size, 1, none⟩ = some (.slice A n c)) (first | exact ⟨c0, c1⟩ | exact ⟨HC0, HC1⟩ | exact ⟨KC0, KC1⟩ | go_keep)
    (first
      | (go_at_call 79; refine (norm_v (w := W.drew) hr1 hL).mono ?_; rintro e w1 ⟨B, k, d, rfl, hN, hb1⟩; have q0 := Box.below (w := W.drew) b0 hb1; have q1 := Box.below (w := W.drew) b1 hb1; have HC0 := q0.cell 0 _ rfl; have HC1 := q0.cell 1 _ rfl)
      | (go_at_call 77; refine (signed_v (!s) hN HS.out.symm).mono ?_; rintro e w2 ⟨t, rfl, hI, hb2⟩; have p0 := q0.below hb2; have p1 := q1.below hb2; have KC0 := p0.cell 0 _ rfl; have KC1 := p0.cell 1 _ rfl; have r0 := p1.cell 0 _ rfl; have r1 := p1.cell 1 _ rfl; have f0 := p1.frozen 0; have f1 := p1.frozen 1))
  have hI2 := hI.stored p1 (notInt_box _ _ _ _) (.bool t) (.slice B k d)
  have hbf : Below w.heap.size w ((w2.setCell ⟨w.heap.size + 1, 0, none⟩ (.bool t)).setCell ⟨w.heap.size + 1, 1, none⟩ (.slice B k d)) := below_stored (hbW.trans (((below_drawn hb1).trans (hb2.mono hb1.size)).mono hbW.size)) (by omega) _ _
  have hbx := p1.stored (.bool t) (.slice B k d)
  go_wp2_with fail
  refine bodyPost_ret (ret_int rfl rfl hbx) rfl ?_
  exact ⟨t, B, k, d, rfl, hI2, hbf⟩
theorem bitsN_pos {x : Nat} (h : 0 < x) : 0 < bitsN x := by
  unfold bitsN topBits
  rw [if_neg (by omega)]
  have h1 := le_of_digs_length h
  have h2 := lt_of_digs_length (Nat.le_refl (digs x).length)
  have h3 := digs_length_pos h
  obtain ⟨m, hm⟩ : ∃ m, (digs x).length = m + 1 := ⟨(digs x).length - 1, by omega⟩
  rw [hm, Nat.add_sub_cancel] at h1 ⊢
  rw [hm, Bs_succ] at h2
  have h4 : 0 < (digs x).getD m 0 := by
    rw [digs_digit, Nat.mod_eq_of_lt (Nat.div_lt_of_lt_mul (by rw [Nat.mul_comm]; exact h2))]
    exact Nat.div_pos h1 (Bs_pos m)
  have h5 : (digs x).getD m 0 < 4294967296 := okD_getD (okD_digs x) m
  have h6 := Lib.bitLen_half ((digs x).getD m 0) (by omega) (by omega)
  omega
/-- The sign of an integer, as an int. -/
theorem isign_v (h : RI w s (.slice A n c) z L) :
    Calls Tryz.prog 58 #[.agg #[.bool s, .slice A n c]] w fun e w' => e = .returned (.int .i64 z.sign) ∧ Below w.heap.size w w' := by
  have hr := h.rv
  have hs := h.sg
  rcases Nat.eq_zero_or_pos z.natAbs with h0 | h0
  · have hz : z = 0 := by omega
    have hbt : bitsN z.natAbs = 0 := by rw [h0]; rfl
    subst hz
    have HB := Lib.hid hbt
    clear h hs h0 hbt
    go_enter Tryz.func58, Tryz.ntmps58
    go_wp2_with fail
    obtain ⟨W, hW, b0, hbW, hsz⟩ := boxes1 w #[.bool s, .slice A n c] 28
    rw [hW]
    refine (bits_v (hr.below hbW)).mono ?_
    rintro e w' ⟨rfl, hb⟩
    rw [HB.out]
    have hbf := hbW.trans (hb.mono hbW.size)
    go_wp2_with fail
    go_returns
    exact ⟨rfl, hbf⟩
  · have hbt : 0 < bitsN z.natAbs := bitsN_pos h0
    generalize hbn : bitsN z.natAbs = bn at hbt
    have HBN := Lib.hid hbn
    have hb0 : ((bn : Int) == 0) = false := by rw [beq_eq_false_iff_ne]; omega
    have HS := Lib.hid hs
    have hzp : z ≠ 0 := by omega
    clear h hs hbn hbt h0
    cases s
    · have hsg : z.sign = 1 := Int.sign_eq_one_of_pos (by have := HS.out; rw [sg_false] at this; omega)
      have HG := Lib.hid hsg
      clear hsg hzp
      go_enter Tryz.func58, Tryz.ntmps58
      go_wp2_with fail
      obtain ⟨W, hW, b0, hbW, hsz⟩ := boxes1 w #[.bool false, .slice A n c] 28
      rw [hW]
      refine (bits_v (hr.below hbW)).mono ?_
      rintro e w' ⟨rfl, hb⟩
      rw [HBN.out]
      have hbf := hbW.trans (hb.mono hbW.size)
      have c0 := (b0.below hb).cell 0 _ rfl
      go_wp2_with fail
      go_returns
      exact ⟨by rw [HG.out]; rfl, hbf⟩
    · have hsg : z.sign = -1 := Int.sign_eq_neg_one_of_neg (by have := HS.out; rw [sg_true] at this; omega)
      have HG := Lib.hid hsg
      clear hsg hzp
      go_enter Tryz.func58, Tryz.ntmps58
      go_wp2_with fail
      obtain ⟨W, hW, b0, hbW, hsz⟩ := boxes1 w #[.bool true, .slice A n c] 28
      rw [hW]
      refine (bits_v (hr.below hbW)).mono ?_
      rintro e w' ⟨rfl, hb⟩
      rw [HBN.out]
      have hbf := hbW.trans (hb.mono hbW.size)
      have c0 := (b0.below hb).cell 0 _ rfl
      go_wp2_with fail
      go_returns
      exact ⟨by rw [HG.out]; rfl, hbf⟩
end
end Go.Proofs.YtfonldogbfkpiaaGreat
namespace Go.Proofs.YtfonldogbfkpiaaGreat
open Go.RowKit

theorem isnan_any (a : Int) (w : World) : Calls Tryz.prog 107 #[.int .i64 a] w fun e w' => e = .returned (.bool false) ∧ w = w' := by
  go_enter Tryz.func107, Tryz.ntmps107
  go_wp2_with fail
  go_returns
  exact ⟨by simp, rfl⟩
theorem compare_any (a b : Int) (w : World) : Calls Tryz.prog 73 #[.int .i64 a, .int .i64 b] w fun e w' => e = .returned (.int .i64 (a - b).sign) ∧ w = w' := by
  rcases Int.lt_trichotomy a b with h | h | h
  · have hr : (a - b).sign = -1 := Int.sign_eq_neg_one_of_neg (by omega)
    rw [hr]
    clear hr
    go_enter Tryz.func73, Tryz.ntmps73
    go_wp2_with fail
    refine (isnan_any a w).mono ?_
    rintro e w' ⟨rfl, rfl⟩
    go_wp2_with fail
    refine (isnan_any b w).mono ?_
    rintro e w' ⟨rfl, rfl⟩
    go_wp2_with fail
    go_returns
    exact ⟨rfl, rfl⟩
  · subst h
    rw [Int.sub_self]
    go_enter Tryz.func73, Tryz.ntmps73
    go_wp2_with fail
    refine (isnan_any a w).mono ?_
    rintro e w' ⟨rfl, rfl⟩
    go_wp2_with fail
    refine (isnan_any a w).mono ?_
    rintro e w' ⟨rfl, rfl⟩
    go_wp2_with fail
    go_returns
    exact ⟨rfl, rfl⟩
  · have hr : (a - b).sign = 1 := Int.sign_eq_one_of_pos (by omega)
    rw [hr]
    clear hr
    go_enter Tryz.func73, Tryz.ntmps73
    go_wp2_with fail
    refine (isnan_any a w).mono ?_
    rintro e w' ⟨rfl, rfl⟩
    go_wp2_with fail
    refine (isnan_any b w).mono ?_
    rintro e w' ⟨rfl, rfl⟩
    go_wp2_with fail
    go_returns
    exact ⟨rfl, rfl⟩

theorem cmpI_sign (x y : Nat) : cmpI x y = ((x : Int) - y).sign := by
  rcases Nat.lt_trichotomy x y with h | h | h
  · rw [cmpI_lt h, Int.sign_eq_neg_one_of_neg (by omega)]
  · subst h; rw [cmpI_eq rfl, Int.sub_self]; rfl
  · rw [cmpI_gt h, Int.sign_eq_one_of_pos (by omega)]
theorem sign_cases (z : Int) : (z < 0 ∧ z.sign = -1) ∨ (z = 0 ∧ z.sign = 0) ∨ (0 < z ∧ z.sign = 1) := by
  rcases Int.lt_trichotomy z 0 with h | h | h
  · exact .inl ⟨h, Int.sign_eq_neg_one_of_neg h⟩
  · exact .inr (.inl ⟨h, by subst h; rfl⟩)
  · exact .inr (.inr ⟨h, Int.sign_eq_one_of_pos h⟩)
theorem sign_le (z : Int) : -1 ≤ z.sign ∧ z.sign ≤ 1 := by rcases sign_cases z with h | h | h <;> omega
theorem NV.more {w : World} {v : Value} {x L L' : Nat} (h : NV w v x L) (hL : L ≤ L') : NV w v x L' := ⟨h.1, Nat.lt_of_lt_of_le h.2 (Bs_mono hL)⟩

section
variable {A A' : Option Addr} {n n' c c' x y L L' : Nat} {s s' : Bool} {z z' : Int} {w : World}
set_option maxRecDepth 100000 in
/-- Integers of different signs. -/
theorem icmp_signs (h : RI w s (.slice A n c) z L) (h' : RI w s' (.slice A' n' c') z' L') {a b k : Int} (hs1 : z.sign = a) (hs2 : z'.sign = b) (hk : (a - b).sign = k) (hk0 : k ≠ 0) :
    Calls Tryz.prog 45 #[.agg #[.bool s, .slice A n c], .agg #[.bool s', .slice A' n' c']] w fun e w' => e = .returned (.int .i64 k) ∧ Below w.heap.size w w' := by
    have HS1 := Lib.hid hs1
    have HS2 := Lib.hid hs2
    have HK := Lib.hid hk
    have hkn : (k != 0) = true := by rw [bne_iff_ne]; exact hk0
    clear hs1 hs2 hk hk0
    go_enter Tryz.func45, Tryz.ntmps45
    go_wp2_with fail
    obtain ⟨W, hW, b0, b1, hbW, hsz⟩ := boxes2 w #[.bool s, .slice A n c] #[.bool s', .slice A' n' c'] 28 28
    rw [hW]
    have c0 := b0.cell 0 _ rfl
    have c1 := b0.cell 1 _ rfl
    clear hW
    go_wp2_with fail
    refine (isign_v (h.below hbW)).mono ?_
    rintro e w1 ⟨rfl, hb1⟩
    rw [HS1.out]
    have q0 := b0.below hb1
    have q1 := b1.below hb1
    have e0 := q1.cell 0 _ rfl
    have e1 := q1.cell 1 _ rfl
    have hbf1 := hbW.trans (hb1.mono hbW.size)
    clear c0 c1 hb1 b0 b1 hbW hsz
    go_wp2_with fail
    refine (isign_v (h'.below hbf1)).mono ?_
    rintro e w2 ⟨rfl, hb2⟩
    rw [HS2.out]
    have p0 := q0.below hb2
    have p1 := q1.below hb2
    have k1 := p0.cell 1 _ rfl
    have l1 := p1.cell 1 _ rfl
    have hbf := hbf1.trans (hb2.mono hbf1.size)
    clear e0 e1 hb2 q0 q1 hbf1
    go_wp2_with fail
    refine (compare_any _ _ w2).mono ?_
    rintro e w2 ⟨rfl, rfl⟩
    rw [HK.out]
    go_wp2_with fail
    go_returns
    exact ⟨rfl, hbf⟩
set_option maxRecDepth 100000 in
/-- Integers of one sign. -/
theorem icmp_abs (h : RI w s (.slice A n c) z L) (h' : RI w s' (.slice A' n' c') z' L') {a k : Int} (hs1 : z.sign = a) (hs2 : z'.sign = a) (hk : cmpI z.natAbs z'.natAbs = k) (hw : IntKind.i64.wrap (a * k) = a * k) :
    Calls Tryz.prog 45 #[.agg #[.bool s, .slice A n c], .agg #[.bool s', .slice A' n' c']] w fun e w' => e = .returned (.int .i64 (a * k)) ∧ Below w.heap.size w w' := by
    have HS1 := Lib.hid hs1
    have HS2 := Lib.hid hs2
    have HK := Lib.hid hk
    have hr := h.rv
    have hr' := h'.rv
    clear hs1 hs2 hk
    go_enter Tryz.func45, Tryz.ntmps45
    go_wp2_with fail
    obtain ⟨W, hW, b0, b1, hbW, hsz⟩ := boxes2 w #[.bool s, .slice A n c] #[.bool s', .slice A' n' c'] 28 28
    rw [hW]
    have c0 := b0.cell 0 _ rfl
    have c1 := b0.cell 1 _ rfl
    clear hW
    go_wp2_with fail
    refine (isign_v (h.below hbW)).mono ?_
    rintro e w1 ⟨rfl, hb1⟩
    rw [HS1.out]
    have q0 := b0.below hb1
    have q1 := b1.below hb1
    have e0 := q1.cell 0 _ rfl
    have e1 := q1.cell 1 _ rfl
    have hbf1 := hbW.trans (hb1.mono hbW.size)
    clear c0 c1 hb1 b0 b1 hbW hsz
    go_wp2_with fail
    refine (isign_v (h'.below hbf1)).mono ?_
    rintro e w2 ⟨rfl, hb2⟩
    rw [HS2.out]
    have p0 := q0.below hb2
    have p1 := q1.below hb2
    have k1 := p0.cell 1 _ rfl
    have l1 := p1.cell 1 _ rfl
    have hbf := hbf1.trans (hb2.mono hbf1.size)
    clear e0 e1 hb2 q0 q1 hbf1
    go_wp2_with fail
    refine (compare_any _ _ w2).mono ?_
    rintro e w2 ⟨rfl, rfl⟩
    rw [Int.sub_self, show (0 : Int).sign = 0 from rfl]
    go_wp2_with fail
    refine (cmp_v (hr.below hbf) (hr'.below hbf)).mono ?_
    rintro e w3 ⟨rfl, hb3⟩
    rw [HK.out]
    have hbf3 := hbf.trans (hb3.mono hbf.size)
    go_wp2_with fail
    go_returns
    exact ⟨rfl, hbf3⟩
theorem icmp_v (h : RI w s (.slice A n c) z L) (h' : RI w s' (.slice A' n' c') z' L') :
    Calls Tryz.prog 45 #[.agg #[.bool s, .slice A n c], .agg #[.bool s', .slice A' n' c']] w fun e w' => e = .returned (.int .i64 (z - z').sign) ∧ Below w.heap.size w w' := by
  by_cases hne : z.sign = z'.sign
  · have hr : (z - z').sign = z.sign * cmpI z.natAbs z'.natAbs := by
      rw [cmpI_sign]
      rcases sign_cases z with ⟨h1, h2⟩ | ⟨h1, h2⟩ | ⟨h1, h2⟩ <;> rcases sign_cases z' with ⟨k1, k2⟩ | ⟨k1, k2⟩ | ⟨k1, k2⟩ <;> rw [h2, k2] at hne <;> (try omega)
      · rw [h2, Int.neg_mul, Int.one_mul, ← Int.sign_neg]; congr 1; omega
      · rw [h1, k1]; rfl
      · rw [h2, Int.one_mul]; congr 1; omega
    rw [hr]
    have hk := sign_le (z - z')
    rw [hr] at hk
    exact icmp_abs h h' rfl hne.symm rfl (by generalize z.sign * cmpI z.natAbs z'.natAbs = q at hk; simp [IntKind.wrap, IntKind.bits, IntKind.signed]; omega)
  · have hk : (z.sign - z'.sign).sign = (z - z').sign := by
      rcases sign_cases z with ⟨h1, h2⟩ | ⟨h1, h2⟩ | ⟨h1, h2⟩ <;> rcases sign_cases z' with ⟨k1, k2⟩ | ⟨k1, k2⟩ | ⟨k1, k2⟩ <;> rw [h2, k2] at hne <;> (try omega)
      all_goals
        rw [h2, k2]
        rcases sign_cases (z - z') with ⟨m1, m2⟩ | ⟨m1, m2⟩ | ⟨m1, m2⟩ <;> first | (rw [m2]; rfl) | omega
    refine icmp_signs h h' rfl rfl hk ?_
    intro h0
    have := Int.sign_eq_zero_iff_zero.1 h0
    exact hne (by rw [show z = z' by omega])
end
end Go.Proofs.YtfonldogbfkpiaaGreat
namespace Go.Proofs.YtfonldogbfkpiaaGreat
open Go.RowKit
section
variable {A A' : Option Addr} {n n' c c' x y L L' : Nat} {s s' : Bool} {z z' : Int} {w : World}
theorem sub_no_v (hx : RV w (.slice A n c) x L) (hy : RV w (.slice A' n' c') y L') (h : x < y) :
    Calls Tryz.prog 121 #[.slice A n c, .slice A' n' c'] w fun e w' => e = .returned (.tuple #[.slice none 0 0, .bool false]) ∧ Below w.heap.size w w' := by
  obtain ⟨ds, h1, h2, h3⟩ := hx
  obtain ⟨es, k1, k2, k3⟩ := hy
  exact sub_lt h1 k1 (Lib.hid h2) (Lib.hid k2) h
set_option maxRecDepth 100000 in
theorem iadd_same (s : Bool) (hx : RV w (.slice A n c) x L) (hy : RV w (.slice A' n' c') y L') (hL : L ≤ 1000000) (hL' : L' ≤ 1000000) (hz : sg s (x + y) = z) :
    Calls Tryz.prog 95 #[.agg #[.bool s, .slice A n c], .agg #[.bool s, .slice A' n' c']] w fun e w' => ∃ t B k d, e = .returned (.agg #[.bool t, .slice B k d]) ∧ NI w' t (.slice B k d) z (max L L' + 1) ∧ Below w.heap.size w w' := by
  have HZ := Lib.hid hz
  clear hz
  cases s
  · go_enter Tryz.func95, Tryz.ntmps95
    go_wp2_with fail
    obtain ⟨W, hW, b0, b1, b2, hbW, hsz⟩ := boxes3 w #[.bool false, .slice A n c] #[.bool false, .slice A' n' c'] #[.bool false, .slice none 0 0] 28 28 28
    rw [hW]
    have a0 := b0.cell 0 _ rfl
    have a1 := b0.cell 1 _ rfl
    have d0 := b1.cell 0 _ rfl
    have d1 := b1.cell 1 _ rfl
    have hx1 := hx.below hbW
    have hy1 := hy.below hbW
    clear hW hx hy
    go_wp2_with fail
    go_region_held3 (fun V => V.cell? ⟨w.heap.size, 0, none⟩ = some (.bool false) ∧ V.cell? ⟨w.heap.size, 1, none⟩ = some (.slice A n c) ∧ V.cell? ⟨w.heap.size + 1, 0, none⟩ = some (.bool false) ∧ V.cell? ⟨w.heap.size + 1, 1, none⟩ = some (.slice A' n' c')) (first | exact ⟨a0, a1, d0, d1⟩ | exact HC | exact KC | exact ⟨(p0.far (by omega) _ _).cell 0 _ rfl, (p0.far (by omega) _ _).cell 1 _ rfl, (p1.far (by omega) _ _).cell 0 _ rfl, (p1.far (by omega) _ _).cell 1 _ rfl⟩ | go_keep)
      (first
        | (go_at_call 120; refine (add_v (w := W.drew) hx1 hy1 hL hL').mono ?_; rintro e w1 ⟨B, k, d, rfl, hN, hb1⟩; have hb1' := below_drawn hb1; have q0 := b0.below hb1'; have q1 := b1.below hb1'; have q2 := b2.below hb1'; have HC := And.intro (q0.cell 0 _ rfl) (And.intro (q0.cell 1 _ rfl) (And.intro (q1.cell 0 _ rfl) (q1.cell 1 _ rfl))))
        | (go_at_call 77; refine (signed_v _ hN HZ.out).mono ?_; rintro e w2 ⟨t, rfl, hI, hb2⟩; have p0 := q0.below hb2; have p1 := q1.below hb2; have p2 := q2.below hb2; have KC := And.intro (p0.cell 0 _ rfl) (And.intro (p0.cell 1 _ rfl) (And.intro (p1.cell 0 _ rfl) (p1.cell 1 _ rfl))); have r0 := p2.cell 0 _ rfl; have r1 := p2.cell 1 _ rfl; have f0 := p2.frozen 0; have f1 := p2.frozen 1; have hbT := hbW.trans ((hb1'.trans (hb2.mono hb1'.size)).mono hbW.size)))
    have hI2 := hI.stored p2 (notInt_box _ _ _ _) (.bool t) (.slice B k d)
    have hbf := below_stored (g := w.heap.size + 1 + 1) hbT (by omega) (.bool t) (.slice B k d)
    have hbx := p2.stored (.bool t) (.slice B k d)
    go_wp2_with fail
    refine bodyPost_ret (ret_int rfl rfl hbx) rfl ?_
    exact ⟨t, B, k, d, rfl, hI2, hbf⟩
  · go_enter Tryz.func95, Tryz.ntmps95
    go_wp2_with fail
    obtain ⟨W, hW, b0, b1, b2, hbW, hsz⟩ := boxes3 w #[.bool true, .slice A n c] #[.bool true, .slice A' n' c'] #[.bool false, .slice none 0 0] 28 28 28
    rw [hW]
    have a0 := b0.cell 0 _ rfl
    have a1 := b0.cell 1 _ rfl
    have d0 := b1.cell 0 _ rfl
    have d1 := b1.cell 1 _ rfl
    have hx1 := hx.below hbW
    have hy1 := hy.below hbW
    clear hW hx hy
    go_wp2_with fail
    go_region_held3 (fun V => V.cell? ⟨w.heap.size, 0, none⟩ = some (.bool true) ∧ V.cell? ⟨w.heap.size, 1, none⟩ = some (.slice A n c) ∧ V.cell? ⟨w.heap.size + 1, 0, none⟩ = some (.bool true) ∧ V.cell? ⟨w.heap.size + 1, 1, none⟩ = some (.slice A' n' c')) (first | exact ⟨a0, a1, d0, d1⟩ | exact HC | exact KC | exact ⟨(p0.far (by omega) _ _).cell 0 _ rfl, (p0.far (by omega) _ _).cell 1 _ rfl, (p1.far (by omega) _ _).cell 0 _ rfl, (p1.far (by omega) _ _).cell 1 _ rfl⟩ | go_keep)
      (first
        | (go_at_call 120; refine (add_v (w := W.drew) hx1 hy1 hL hL').mono ?_; rintro e w1 ⟨B, k, d, rfl, hN, hb1⟩; have hb1' := below_drawn hb1; have q0 := b0.below hb1'; have q1 := b1.below hb1'; have q2 := b2.below hb1'; have HC := And.intro (q0.cell 0 _ rfl) (And.intro (q0.cell 1 _ rfl) (And.intro (q1.cell 0 _ rfl) (q1.cell 1 _ rfl))))
        | (go_at_call 77; refine (signed_v _ hN HZ.out).mono ?_; rintro e w2 ⟨t, rfl, hI, hb2⟩; have p0 := q0.below hb2; have p1 := q1.below hb2; have p2 := q2.below hb2; have KC := And.intro (p0.cell 0 _ rfl) (And.intro (p0.cell 1 _ rfl) (And.intro (p1.cell 0 _ rfl) (p1.cell 1 _ rfl))); have r0 := p2.cell 0 _ rfl; have r1 := p2.cell 1 _ rfl; have f0 := p2.frozen 0; have f1 := p2.frozen 1; have hbT := hbW.trans ((hb1'.trans (hb2.mono hb1'.size)).mono hbW.size)))
    have hI2 := hI.stored p2 (notInt_box _ _ _ _) (.bool t) (.slice B k d)
    have hbf := below_stored (g := w.heap.size + 1 + 1) hbT (by omega) (.bool t) (.slice B k d)
    have hbx := p2.stored (.bool t) (.slice B k d)
    go_wp2_with fail
    refine bodyPost_ret (ret_int rfl rfl hbx) rfl ?_
    exact ⟨t, B, k, d, rfl, hI2, hbf⟩
end
end Go.Proofs.YtfonldogbfkpiaaGreat
namespace Go.Proofs.YtfonldogbfkpiaaGreat
open Go.RowKit
section
variable {A A' : Option Addr} {n n' c c' x y L L' : Nat} {s s' : Bool} {z z' : Int} {w : World}
set_option maxRecDepth 100000 in
theorem iadd_ge (hs : (s = true ∧ s' = false) ∨ (s = false ∧ s' = true)) (hx : RV w (.slice A n c) x L) (hy : RV w (.slice A' n' c') y L') (hle : y ≤ x) (hz : sg s (x - y) = z) :
    Calls Tryz.prog 95 #[.agg #[.bool s, .slice A n c], .agg #[.bool s', .slice A' n' c']] w fun e w' => ∃ t B k d, e = .returned (.agg #[.bool t, .slice B k d]) ∧ NI w' t (.slice B k d) z (max L L' + 1) ∧ Below w.heap.size w w' := by
  have HZ := Lib.hid hz
  have HLE := Lib.hid hle
  clear hz hle
  rcases hs with ⟨rfl, rfl⟩ | ⟨rfl, rfl⟩
  · go_enter Tryz.func95, Tryz.ntmps95
    go_wp2_with fail
    obtain ⟨W, hW, b0, b1, b2, hbW, hsz⟩ := boxes3 w #[.bool true, .slice A n c] #[.bool false, .slice A' n' c'] #[.bool false, .slice none 0 0] 28 28 28
    rw [hW]
    have a0 := b0.cell 0 _ rfl
    have a1 := b0.cell 1 _ rfl
    have d0 := b1.cell 0 _ rfl
    have d1 := b1.cell 1 _ rfl
    have hx1 := hx.below hbW
    have hy1 := hy.below hbW
    clear hW hx hy
    go_wp2_with fail
    refine (sub_v hx1 hy1 HLE.out).mono ?_
    rintro e w1 ⟨B, k, d, rfl, hN0, hb1'⟩
    have hN := hN0.more (L' := max L L' + 1) (by omega)
    have q0 := b0.below hb1'
    have q1 := b1.below hb1'
    have q2 := b2.below hb1'
    have e0 := q0.cell 0 _ rfl
    clear a0 a1 d0 d1 hx1 hy1 hN0
    go_wp2_with fail
    refine (signed_v _ hN HZ.out).mono ?_
    rintro e w2 ⟨t, rfl, hI, hb2⟩
    have p2 := q2.below hb2
    have r0 := p2.cell 0 _ rfl
    have r1 := p2.cell 1 _ rfl
    have f0 := p2.frozen 0
    have f1 := p2.frozen 1
    have hbT := hbW.trans ((hb1'.trans (hb2.mono hb1'.size)).mono hbW.size)
    clear q0 q1 q2
    have hI2 := hI.stored p2 (notInt_box _ _ _ _) (.bool t) (.slice B k d)
    have hbf := below_stored (g := w.heap.size + 1 + 1) hbT (by omega) (.bool t) (.slice B k d)
    have hbx := p2.stored (.bool t) (.slice B k d)
    go_wp2_with fail
    refine bodyPost_ret (ret_int rfl rfl hbx) rfl ?_
    exact ⟨t, B, k, d, rfl, hI2, hbf⟩
  · go_enter Tryz.func95, Tryz.ntmps95
    go_wp2_with fail
    obtain ⟨W, hW, b0, b1, b2, hbW, hsz⟩ := boxes3 w #[.bool false, .slice A n c] #[.bool true, .slice A' n' c'] #[.bool false, .slice none 0 0] 28 28 28
    rw [hW]
    have a0 := b0.cell 0 _ rfl
    have a1 := b0.cell 1 _ rfl
    have d0 := b1.cell 0 _ rfl
    have d1 := b1.cell 1 _ rfl
    have hx1 := hx.below hbW
    have hy1 := hy.below hbW
    clear hW hx hy
    go_wp2_with fail
    refine (sub_v hx1 hy1 HLE.out).mono ?_
    rintro e w1 ⟨B, k, d, rfl, hN0, hb1'⟩
    have hN := hN0.more (L' := max L L' + 1) (by omega)
    have q0 := b0.below hb1'
    have q1 := b1.below hb1'
    have q2 := b2.below hb1'
    have e0 := q0.cell 0 _ rfl
    clear a0 a1 d0 d1 hx1 hy1 hN0
    go_wp2_with fail
    refine (signed_v _ hN HZ.out).mono ?_
    rintro e w2 ⟨t, rfl, hI, hb2⟩
    have p2 := q2.below hb2
    have r0 := p2.cell 0 _ rfl
    have r1 := p2.cell 1 _ rfl
    have f0 := p2.frozen 0
    have f1 := p2.frozen 1
    have hbT := hbW.trans ((hb1'.trans (hb2.mono hb1'.size)).mono hbW.size)
    clear q0 q1 q2
    have hI2 := hI.stored p2 (notInt_box _ _ _ _) (.bool t) (.slice B k d)
    have hbf := below_stored (g := w.heap.size + 1 + 1) hbT (by omega) (.bool t) (.slice B k d)
    have hbx := p2.stored (.bool t) (.slice B k d)
    go_wp2_with fail
    refine bodyPost_ret (ret_int rfl rfl hbx) rfl ?_
    exact ⟨t, B, k, d, rfl, hI2, hbf⟩
set_option maxRecDepth 100000 in
theorem iadd_lt (hs : (s = true ∧ s' = false) ∨ (s = false ∧ s' = true)) (hx : RV w (.slice A n c) x L) (hy : RV w (.slice A' n' c') y L') (hlt : x < y) (hz : sg s' (y - x) = z) :
    Calls Tryz.prog 95 #[.agg #[.bool s, .slice A n c], .agg #[.bool s', .slice A' n' c']] w fun e w' => ∃ t B k d, e = .returned (.agg #[.bool t, .slice B k d]) ∧ NI w' t (.slice B k d) z (max L L' + 1) ∧ Below w.heap.size w w' := by
  have HZ := Lib.hid hz
  have HLE := Lib.hid hlt
  clear hz hlt
  rcases hs with ⟨rfl, rfl⟩ | ⟨rfl, rfl⟩
  · go_enter Tryz.func95, Tryz.ntmps95
    go_wp2_with fail
    obtain ⟨W, hW, b0, b1, b2, hbW, hsz⟩ := boxes3 w #[.bool true, .slice A n c] #[.bool false, .slice A' n' c'] #[.bool false, .slice none 0 0] 28 28 28
    rw [hW]
    have a0 := b0.cell 0 _ rfl
    have a1 := b0.cell 1 _ rfl
    have d0 := b1.cell 0 _ rfl
    have d1 := b1.cell 1 _ rfl
    have hx1 := hx.below hbW
    have hy1 := hy.below hbW
    clear hW hx hy
    go_wp2_with fail
    refine (sub_no_v hx1 hy1 HLE.out).mono ?_
    rintro e w0 ⟨rfl, hb0⟩
    have m0 := b0.below hb0
    have m1 := b1.below hb0
    have m2 := b2.below hb0
    have i1 := m0.cell 1 _ rfl
    have j1 := m1.cell 1 _ rfl
    have hx2 := hx1.below hb0
    have hy2 := hy1.below hb0
    clear a0 a1 d0 d1 hx1 hy1
    go_wp2_with fail
    refine (sub_v hy2 hx2 (Nat.le_of_lt HLE.out)).mono ?_
    rintro e w1 ⟨B, k, d, rfl, hN0, hb1⟩
    have hN := hN0.more (L' := max L L' + 1) (by omega)
    have hb1' := hb0.trans (hb1.mono hb0.size)
    have q0 := m0.below hb1
    have q1 := m1.below hb1
    have q2 := m2.below hb1
    have e0 := q1.cell 0 _ rfl
    clear i1 j1 hx2 hy2 hN0 b0 b1 b2 m0 m1 m2
    go_wp2_with fail
    refine (signed_v _ hN HZ.out).mono ?_
    rintro e w2 ⟨t, rfl, hI, hb2⟩
    have p2 := q2.below hb2
    have r0 := p2.cell 0 _ rfl
    have r1 := p2.cell 1 _ rfl
    have f0 := p2.frozen 0
    have f1 := p2.frozen 1
    have hbT := hbW.trans ((hb1'.trans (hb2.mono hb1'.size)).mono hbW.size)
    clear q0 q1 q2
    have hI2 := hI.stored p2 (notInt_box _ _ _ _) (.bool t) (.slice B k d)
    have hbf := below_stored (g := w.heap.size + 1 + 1) hbT (by omega) (.bool t) (.slice B k d)
    have hbx := p2.stored (.bool t) (.slice B k d)
    go_wp2_with fail
    refine bodyPost_ret (ret_int rfl rfl hbx) rfl ?_
    exact ⟨t, B, k, d, rfl, hI2, hbf⟩
  · go_enter Tryz.func95, Tryz.ntmps95
    go_wp2_with fail
    obtain ⟨W, hW, b0, b1, b2, hbW, hsz⟩ := boxes3 w #[.bool false, .slice A n c] #[.bool true, .slice A' n' c'] #[.bool false, .slice none 0 0] 28 28 28
    rw [hW]
    have a0 := b0.cell 0 _ rfl
    have a1 := b0.cell 1 _ rfl
    have d0 := b1.cell 0 _ rfl
    have d1 := b1.cell 1 _ rfl
    have hx1 := hx.below hbW
    have hy1 := hy.below hbW
    clear hW hx hy
    go_wp2_with fail
    refine (sub_no_v hx1 hy1 HLE.out).mono ?_
    rintro e w0 ⟨rfl, hb0⟩
    have m0 := b0.below hb0
    have m1 := b1.below hb0
    have m2 := b2.below hb0
    have i1 := m0.cell 1 _ rfl
    have j1 := m1.cell 1 _ rfl
    have hx2 := hx1.below hb0
    have hy2 := hy1.below hb0
    clear a0 a1 d0 d1 hx1 hy1
    go_wp2_with fail
    refine (sub_v hy2 hx2 (Nat.le_of_lt HLE.out)).mono ?_
    rintro e w1 ⟨B, k, d, rfl, hN0, hb1⟩
    have hN := hN0.more (L' := max L L' + 1) (by omega)
    have hb1' := hb0.trans (hb1.mono hb0.size)
    have q0 := m0.below hb1
    have q1 := m1.below hb1
    have q2 := m2.below hb1
    have e0 := q1.cell 0 _ rfl
    clear i1 j1 hx2 hy2 hN0 b0 b1 b2 m0 m1 m2
    go_wp2_with fail
    refine (signed_v _ hN HZ.out).mono ?_
    rintro e w2 ⟨t, rfl, hI, hb2⟩
    have p2 := q2.below hb2
    have r0 := p2.cell 0 _ rfl
    have r1 := p2.cell 1 _ rfl
    have f0 := p2.frozen 0
    have f1 := p2.frozen 1
    have hbT := hbW.trans ((hb1'.trans (hb2.mono hb1'.size)).mono hbW.size)
    clear q0 q1 q2
    have hI2 := hI.stored p2 (notInt_box _ _ _ _) (.bool t) (.slice B k d)
    have hbf := below_stored (g := w.heap.size + 1 + 1) hbT (by omega) (.bool t) (.slice B k d)
    have hbx := p2.stored (.bool t) (.slice B k d)
    go_wp2_with fail
    refine bodyPost_ret (ret_int rfl rfl hbx) rfl ?_
    exact ⟨t, B, k, d, rfl, hI2, hbf⟩
theorem iadd_v (h : RI w s (.slice A n c) z L) (h' : RI w s' (.slice A' n' c') z' L') (hL : L ≤ 1000000) (hL' : L' ≤ 1000000) :
    Calls Tryz.prog 95 #[.agg #[.bool s, .slice A n c], .agg #[.bool s', .slice A' n' c']] w fun e w' => ∃ t B k d, e = .returned (.agg #[.bool t, .slice B k d]) ∧ NI w' t (.slice B k d) (z + z') (max L L' + 1) ∧ Below w.heap.size w w' := by
  obtain ⟨x, hx, rfl⟩ := h
  obtain ⟨y, hy, rfl⟩ := h'
  by_cases hs : s = s'
  · subst hs
    exact iadd_same s hx hy hL hL' (by cases s <;> simp [sg] <;> omega)
  · have hs' : (s = true ∧ s' = false) ∨ (s = false ∧ s' = true) := by cases s <;> cases s' <;> simp_all
    rcases Nat.lt_or_ge x y with hlt | hle
    · exact iadd_lt hs' hx hy hlt (by rcases hs' with ⟨rfl, rfl⟩ | ⟨rfl, rfl⟩ <;> simp [sg] <;> omega)
    · exact iadd_ge hs' hx hy hle (by rcases hs' with ⟨rfl, rfl⟩ | ⟨rfl, rfl⟩ <;> simp [sg] <;> omega)
set_option maxRecDepth 100000 in
theorem isub_v (h : RI w s (.slice A n c) z L) (h' : RI w s' (.slice A' n' c') z' L') (hL : L ≤ 1000000) (hL' : L' ≤ 1000000) :
    Calls Tryz.prog 116 #[.agg #[.bool s, .slice A n c], .agg #[.bool s', .slice A' n' c']] w fun e w' => ∃ t B k d, e = .returned (.agg #[.bool t, .slice B k d]) ∧ NI w' t (.slice B k d) (z - z') (max L L' + 1) ∧ Below w.heap.size w w' := by
    go_enter Tryz.func116, Tryz.ntmps116
    go_wp2_with fail
    obtain ⟨W, hW, b0, b1, b2, hbW, hsz⟩ := boxes3 w #[.bool s, .slice A n c] #[.bool (!s'), .slice A' n' c'] #[.bool false, .slice none 0 0] 28 28 28
    rw [hW]
    have H := iadd_v (h.below hbW) (h'.flip.below hbW) hL hL'
    rw [show z + -z' = z - z' by omega] at H
    clear hW
    refine H.mono ?_
    rintro e w2 ⟨t, B, k, d, rfl, hI, hb2⟩
    have p2 := b2.below hb2
    have r0 := p2.cell 0 _ rfl
    have r1 := p2.cell 1 _ rfl
    have f0 := p2.frozen 0
    have f1 := p2.frozen 1
    have hbT := hbW.trans (hb2.mono hbW.size)
    clear H b0 b1 b2
    have hI2 := hI.stored p2 (notInt_box _ _ _ _) (.bool t) (.slice B k d)
    have hbf := below_stored (g := w.heap.size + 1 + 1) hbT (by omega) (.bool t) (.slice B k d)
    have hbx := p2.stored (.bool t) (.slice B k d)
    go_wp2_with fail
    refine bodyPost_ret (ret_int rfl rfl hbx) rfl ?_
    exact ⟨t, B, k, d, rfl, hI2, hbf⟩
set_option maxRecDepth 100000 in
theorem imul_v (h : RI w s (.slice A n c) z L) (h' : RI w s' (.slice A' n' c') z' L') (hL : L ≤ 1000000) (hL' : L' ≤ 1000000) :
    Calls Tryz.prog 92 #[.agg #[.bool s, .slice A n c], .agg #[.bool s', .slice A' n' c']] w fun e w' => ∃ t B k d, e = .returned (.agg #[.bool t, .slice B k d]) ∧ NI w' t (.slice B k d) (z * z') (L + L') ∧ Below w.heap.size w w' := by
  obtain ⟨x, hx, rfl⟩ := h
  obtain ⟨y, hy, rfl⟩ := h'
  have hz : sg (s != s') (x * y) = sg s x * sg s' y := by
    cases s <;> cases s' <;> simp [sg, Int.neg_mul, Int.mul_neg]
  have HZ := Lib.hid hz
  clear hz
  generalize sg s x * sg s' y = z at *
  go_enter Tryz.func92, Tryz.ntmps92
  go_wp2_with fail
  obtain ⟨W, hW, b0, b1, b2, hbW, hsz⟩ := boxes3 w #[.bool s, .slice A n c] #[.bool s', .slice A' n' c'] #[.bool false, .slice none 0 0] 28 28 28
  rw [hW]
  have a0 := b0.cell 0 _ rfl
  have a1 := b0.cell 1 _ rfl
  have d0 := b1.cell 0 _ rfl
  have d1 := b1.cell 1 _ rfl
  have hx1 := hx.below hbW
  have hy1 := hy.below hbW
  clear hW hx hy
  go_region_held3 (fun V => V.cell? ⟨w.heap.size, 0, none⟩ = some (.bool s) ∧ V.cell? ⟨w.heap.size, 1, none⟩ = some (.slice A n c) ∧ V.cell? ⟨w.heap.size + 1, 0, none⟩ = some (.bool s') ∧ V.cell? ⟨w.heap.size + 1, 1, none⟩ = some (.slice A' n' c')) (first | exact ⟨a0, a1, d0, d1⟩ | exact HC | exact KC | exact ⟨(p0.far (by omega) _ _).cell 0 _ rfl, (p0.far (by omega) _ _).cell 1 _ rfl, (p1.far (by omega) _ _).cell 0 _ rfl, (p1.far (by omega) _ _).cell 1 _ rfl⟩ | go_keep)
    (first
      | (go_at_call 118; refine (mul_v (w := W.drew) hx1 hy1 hL hL').mono ?_; rintro e w1 ⟨B, k, d, rfl, hN, hb1⟩; have hb1' := below_drawn hb1; have q0 := b0.below hb1'; have q1 := b1.below hb1'; have q2 := b2.below hb1'; have HC := And.intro (q0.cell 0 _ rfl) (And.intro (q0.cell 1 _ rfl) (And.intro (q1.cell 0 _ rfl) (q1.cell 1 _ rfl))))
      | (go_at_call 77; refine (signed_v _ hN HZ.out).mono ?_; rintro e w2 ⟨t, rfl, hI, hb2⟩; have p0 := q0.below hb2; have p1 := q1.below hb2; have p2 := q2.below hb2; have KC := And.intro (p0.cell 0 _ rfl) (And.intro (p0.cell 1 _ rfl) (And.intro (p1.cell 0 _ rfl) (p1.cell 1 _ rfl))); have r0 := p2.cell 0 _ rfl; have r1 := p2.cell 1 _ rfl; have f0 := p2.frozen 0; have f1 := p2.frozen 1; have hbT := hbW.trans ((hb1'.trans (hb2.mono hb1'.size)).mono hbW.size)))
  have hI2 := hI.stored p2 (notInt_box _ _ _ _) (.bool t) (.slice B k d)
  have hbf := below_stored (g := w.heap.size + 1 + 1) hbT (by omega) (.bool t) (.slice B k d)
  have hbx := p2.stored (.bool t) (.slice B k d)
  go_wp2_with fail
  refine bodyPost_ret (ret_int rfl rfl hbx) rfl ?_
  exact ⟨t, B, k, d, rfl, hI2, hbf⟩
end
end Go.Proofs.YtfonldogbfkpiaaGreat
namespace Go.Proofs.YtfonldogbfkpiaaGreat
open Go.RowKit

section
variable {A A' : Option Addr} {n n' c c' x y L L' : Nat} {s s' : Bool} {z z' : Int} {w : World}
/-- Two results that lie in blocks, and one that does not. -/
theorem ret_int2 {fn : Func} {p q r : Tmp} (h : fn.results = #[.cell p 28, .cell q 28, .tmp r]) {tmps : Array Value} {w : World} {g g' : Nat} {a b a' b' : Value} {t t' : TypeId} (hp : tmps.getD p undef = .pointer (some ⟨g, 0, none⟩)) (hq : tmps.getD q undef = .pointer (some ⟨g', 0, none⟩)) (hb : Box w g #[a, b] t) (hb' : Box w g' #[a', b'] t') :
    (results fn tmps).run Tryz.prog w = .ok (.tuple #[.agg #[a, b], .agg #[a', b'], tmps.getD r undef]) w := by
  have hp' : tmps[p]?.getD undef = .pointer (some ⟨g, 0, none⟩) := by simpa using hp
  have hq' : tmps[q]?.getD undef = .pointer (some ⟨g', 0, none⟩) := by simpa using hq
  have h1 := run_loadVar_row (P := Tryz.prog) w g t 28 #[a, b] (0, 0) _ hb Tryz.underlying28 rfl info_int
  have h2 := run_loadVar_row (P := Tryz.prog) w g' t' 28 #[a', b'] (0, 0) _ hb' Tryz.underlying28 rfl info_int
  simp [results, h, hp', hq', asAddr, h1, h2]
set_option maxRecDepth 100000 in
theorem idivmod_zero (h : RI w s (.slice A n c) z L) (h' : RI w s' (.slice A' n' c') 0 L') :
    Calls Tryz.prog 93 #[.agg #[.bool s, .slice A n c], .agg #[.bool s', .slice A' n' c']] w fun e w' => e = .returned (.tuple #[.agg #[.bool false, .slice none 0 0], .agg #[.bool false, .slice none 0 0], .bool false]) ∧ Below w.heap.size w w' := by
    have hx := h.rv
    have hy := h'.rv
    rw [Int.natAbs_zero] at hy
    clear h h'
    go_enter Tryz.func93, Tryz.ntmps93
    go_wp2_with fail
    obtain ⟨W, hW, b0, b1, b2, b3, hbW, hsz⟩ := boxes4 w #[.bool s, .slice A n c] #[.bool s', .slice A' n' c'] #[.bool false, .slice none 0 0] #[.bool false, .slice none 0 0] 28 28 28 28
    rw [hW]
    clear hW
    refine (divmod0_v (hx.below hbW) (hy.below hbW)).mono ?_
    rintro e v2 ⟨rfl, hb⟩
    have z0 := b0.below hb
    have z1 := b1.below hb
    have z2 := b2.below hb
    have z3 := b3.below hb
    have hbT := hbW.trans (hb.mono hbW.size)
    have r0 := z2.cell 0 _ rfl
    have r1 := z2.cell 1 _ rfl
    have f0 := z2.frozen 0
    have f1 := z2.frozen 1
    have r2 := z3.cell 0 _ rfl
    have r3 := z3.cell 1 _ rfl
    have f2 := z3.frozen 0
    have f3 := z3.frozen 1
    have u3 := z3.far (g' := w.heap.size + 1 + 1) (by omega) (.bool false) (.slice none 0 0)
    have u2 := z2.stored (.bool false) (.slice none 0 0)
    have x3 := u3.stored (.bool false) (.slice none 0 0)
    have x2 := u2.far (g' := w.heap.size + 1 + 1 + 1) (by omega) (.bool false) (.slice none 0 0)
    have hbf := below_stored (g := w.heap.size + 1 + 1 + 1) (below_stored (g := w.heap.size + 1 + 1) hbT (by omega) (.bool false) (.slice none 0 0)) (by omega) (.bool false) (.slice none 0 0)
    go_wp2_with fail
    refine bodyPost_ret (ret_int2 rfl rfl rfl x2 x3) rfl ?_
    exact ⟨rfl, hbf⟩
theorem divmod_qr {q r : Nat} {W : World} (hx : RV w (.slice A n c) x L) (hy : RV w (.slice A' n' c') y L') (hy0 : 0 < y) (hL : L ≤ 1000000) (hq : x / y = q) (hr : x % y = r) (hbW : Below w.heap.size w W) :
    Calls Tryz.prog 119 #[.slice A n c, .slice A' n' c'] W fun e w' => ∃ B k d B' k' d', e = .returned (.tuple #[.slice B k d, .slice B' k' d', .bool true]) ∧ NV w' (.slice B k d) q L ∧ NV w' (.slice B' k' d') r L' ∧ Below W.heap.size W w' := by
  subst hq hr
  exact divmod_v (hx.below hbW) (hy.below hbW) hy0 hL
set_option maxRecDepth 100000 in
/-- A dividend that is not negative. -/
theorem idivmod_pos {q r : Nat} {zq zr : Int} (hx : RV w (.slice A n c) x L) (hy : RV w (.slice A' n' c') y L') (hy0 : 0 < y) (hL : L ≤ 1000000) (hq : x / y = q) (hr : x % y = r) (hzq : sg s' q = zq) (hzr : sg false r = zr) :
    Calls Tryz.prog 93 #[.agg #[.bool false, .slice A n c], .agg #[.bool s', .slice A' n' c']] w fun e w' => ∃ t B k d t' B' k' d', e = .returned (.tuple #[.agg #[.bool t, .slice B k d], .agg #[.bool t', .slice B' k' d'], .bool true]) ∧ NI w' t (.slice B k d) zq (max L 2 + 1) ∧ NI w' t' (.slice B' k' d') zr L' ∧ Below w.heap.size w w' := by
  have HH := Lib.hid (fun W hbW => divmod_qr (W := W) hx hy hy0 hL hq hr hbW)
  have HQ := Lib.hid hzq
  have HR := Lib.hid hzr
  clear hx hy hq hr hzq hzr hy0
  go_enter Tryz.func93, Tryz.ntmps93
  go_wp2_with fail
  obtain ⟨W, hW, b0, b1, b2, b3, hbW, hsz⟩ := boxes4 w #[.bool false, .slice A n c] #[.bool s', .slice A' n' c'] #[.bool false, .slice none 0 0] #[.bool false, .slice none 0 0] 28 28 28 28
  rw [hW]
  clear hW
  refine ((HH.out W hbW)).mono ?_
  rintro e w1 ⟨B, k, d, B', k', d', rfl, hQ, hR, hb⟩
  have m0 := b0.below hb
  have m1 := b1.below hb
  have m2 := b2.below hb
  have m3 := b3.below hb
  have g0 := m0.cell 0 _ rfl
  have g1 := m1.cell 0 _ rfl
  have hB1 := hbW.trans (hb.mono hbW.size)
  clear b0 b1 b2 b3
  have hQ2 := hQ.more (L' := max L 2 + 1) (by omega)
  go_wp2_with fail
  refine (signed_v _ hQ2 HQ.out).mono ?_
  rintro e v1 ⟨t, rfl, hI, hc1⟩
  have y0 := m0.below hc1
  have y1 := m1.below hc1
  have y2 := m2.below hc1
  have y3 := m3.below hc1
  have hR1 := NV.below hR hc1
  clear hQ2
  go_wp2_with fail
  refine (signed_v _ hR1 HR.out).mono ?_
  rintro e v2 ⟨t', rfl, hI', hc2⟩
  have z0 := y0.below hc2
  have z1 := y1.below hc2
  have z2 := y2.below hc2
  have z3 := y3.below hc2
  have hI2 := hI.below hc2
  clear y0 y1 y2 y3 hI hR1
  have hbT := hB1.trans ((hc1.trans (hc2.mono hc1.size)).mono hB1.size)
  have r0 := z2.cell 0 _ rfl
  have r1 := z2.cell 1 _ rfl
  have f0 := z2.frozen 0
  have f1 := z2.frozen 1
  have r2 := z3.cell 0 _ rfl
  have r3 := z3.cell 1 _ rfl
  have f2 := z3.frozen 0
  have f3 := z3.frozen 1
  have u3 := z3.far (g' := w.heap.size + 1 + 1) (by omega) (.bool t) (.slice B k d)
  have u2 := z2.stored (.bool t) (.slice B k d)
  have x3 := u3.stored (.bool t') (.slice B' k' d')
  have x2 := u2.far (g' := w.heap.size + 1 + 1 + 1) (by omega) (.bool t') (.slice B' k' d')
  have hF := (hI2.stored z2 (notInt_box _ _ _ _) (.bool t) (.slice B k d)).stored u3 (notInt_box _ _ _ _) (.bool t') (.slice B' k' d')
  have hG := (hI'.stored z2 (notInt_box _ _ _ _) (.bool t) (.slice B k d)).stored u3 (notInt_box _ _ _ _) (.bool t') (.slice B' k' d')
  have hbf := below_stored (g := w.heap.size + 1 + 1 + 1) (below_stored (g := w.heap.size + 1 + 1) hbT (by omega) (.bool t) (.slice B k d)) (by omega) (.bool t') (.slice B' k' d')
  go_wp2_with fail
  refine bodyPost_ret (ret_int2 rfl rfl rfl x2 x3) rfl ?_
  exact ⟨t, _, _, _, t', _, _, _, rfl, hF, hG, hbf⟩
set_option maxRecDepth 100000 in
/-- A negative dividend without a remainder. -/
theorem idivmod_even {q : Nat} {zq : Int} (hx : RV w (.slice A n c) x L) (hy : RV w (.slice A' n' c') y L') (hy0 : 0 < y) (hL : L ≤ 1000000) (hq : x / y = q) (hr : x % y = 0) (hzq : sg (!s') q = zq) :
    Calls Tryz.prog 93 #[.agg #[.bool true, .slice A n c], .agg #[.bool s', .slice A' n' c']] w fun e w' => ∃ t B k d t' B' k' d', e = .returned (.tuple #[.agg #[.bool t, .slice B k d], .agg #[.bool t', .slice B' k' d'], .bool true]) ∧ NI w' t (.slice B k d) zq (max L 2 + 1) ∧ NI w' t' (.slice B' k' d') 0 L' ∧ Below w.heap.size w w' := by
  have HH := Lib.hid (fun W hbW => divmod_qr (W := W) hx hy hy0 hL hq hr hbW)
  have HQ := Lib.hid hzq
  clear hx hy hq hr hzq hy0
  cases s'
  · go_enter Tryz.func93, Tryz.ntmps93
    go_wp2_with fail
    obtain ⟨W, hW, b0, b1, b2, b3, hbW, hsz⟩ := boxes4 w #[.bool true, .slice A n c] #[.bool false, .slice A' n' c'] #[.bool false, .slice none 0 0] #[.bool false, .slice none 0 0] 28 28 28 28
    rw [hW]
    clear hW
    refine ((HH.out W hbW)).mono ?_
    rintro e w1 ⟨B, k, d, B', k', d', rfl, hQ, hR, hb⟩
    have m0 := b0.below hb
    have m1 := b1.below hb
    have m2 := b2.below hb
    have m3 := b3.below hb
    have g0 := m0.cell 0 _ rfl
    have g1 := m1.cell 0 _ rfl
    have hB1 := hbW.trans (hb.mono hbW.size)
    clear b0 b1 b2 b3
    have hQ2 := hQ.more (L' := max L 2 + 1) (by omega)
    have hk0 : k' = 0 := by have h := (Raw.cap hR.1).1; rw [digs_zero] at h; exact h
    subst hk0
    go_wp2_with fail
    refine (signed_v _ hQ2 HQ.out).mono ?_
    rintro e v1 ⟨t, rfl, hI, hc1⟩
    have y0 := m0.below hc1
    have y1 := m1.below hc1
    have y2 := m2.below hc1
    have y3 := m3.below hc1
    have hR1 := NV.below hR hc1
    clear hQ2
    go_wp2_with fail
    refine (signed_v _ hR1 (z := 0) rfl).mono ?_
    rintro e v2 ⟨t', rfl, hI', hc2⟩
    have z0 := y0.below hc2
    have z1 := y1.below hc2
    have z2 := y2.below hc2
    have z3 := y3.below hc2
    have hI2 := hI.below hc2
    clear y0 y1 y2 y3 hI hR1
    have hbT := hB1.trans ((hc1.trans (hc2.mono hc1.size)).mono hB1.size)
    have r0 := z2.cell 0 _ rfl
    have r1 := z2.cell 1 _ rfl
    have f0 := z2.frozen 0
    have f1 := z2.frozen 1
    have r2 := z3.cell 0 _ rfl
    have r3 := z3.cell 1 _ rfl
    have f2 := z3.frozen 0
    have f3 := z3.frozen 1
    have u3 := z3.far (g' := w.heap.size + 1 + 1) (by omega) (.bool t) (.slice B k d)
    have u2 := z2.stored (.bool t) (.slice B k d)
    have x3 := u3.stored (.bool t') (.slice B' 0 d')
    have x2 := u2.far (g' := w.heap.size + 1 + 1 + 1) (by omega) (.bool t') (.slice B' 0 d')
    have hF := (hI2.stored z2 (notInt_box _ _ _ _) (.bool t) (.slice B k d)).stored u3 (notInt_box _ _ _ _) (.bool t') (.slice B' 0 d')
    have hG := (hI'.stored z2 (notInt_box _ _ _ _) (.bool t) (.slice B k d)).stored u3 (notInt_box _ _ _ _) (.bool t') (.slice B' 0 d')
    have hbf := below_stored (g := w.heap.size + 1 + 1 + 1) (below_stored (g := w.heap.size + 1 + 1) hbT (by omega) (.bool t) (.slice B k d)) (by omega) (.bool t') (.slice B' 0 d')
    go_wp2_with fail
    refine bodyPost_ret (ret_int2 rfl rfl rfl x2 x3) rfl ?_
    exact ⟨t, _, _, _, t', _, _, _, rfl, hF, hG, hbf⟩
  · go_enter Tryz.func93, Tryz.ntmps93
    go_wp2_with fail
    obtain ⟨W, hW, b0, b1, b2, b3, hbW, hsz⟩ := boxes4 w #[.bool true, .slice A n c] #[.bool true, .slice A' n' c'] #[.bool false, .slice none 0 0] #[.bool false, .slice none 0 0] 28 28 28 28
    rw [hW]
    clear hW
    refine ((HH.out W hbW)).mono ?_
    rintro e w1 ⟨B, k, d, B', k', d', rfl, hQ, hR, hb⟩
    have m0 := b0.below hb
    have m1 := b1.below hb
    have m2 := b2.below hb
    have m3 := b3.below hb
    have g0 := m0.cell 0 _ rfl
    have g1 := m1.cell 0 _ rfl
    have hB1 := hbW.trans (hb.mono hbW.size)
    clear b0 b1 b2 b3
    have hQ2 := hQ.more (L' := max L 2 + 1) (by omega)
    have hk0 : k' = 0 := by have h := (Raw.cap hR.1).1; rw [digs_zero] at h; exact h
    subst hk0
    go_wp2_with fail
    refine (signed_v _ hQ2 HQ.out).mono ?_
    rintro e v1 ⟨t, rfl, hI, hc1⟩
    have y0 := m0.below hc1
    have y1 := m1.below hc1
    have y2 := m2.below hc1
    have y3 := m3.below hc1
    have hR1 := NV.below hR hc1
    clear hQ2
    go_wp2_with fail
    refine (signed_v _ hR1 (z := 0) rfl).mono ?_
    rintro e v2 ⟨t', rfl, hI', hc2⟩
    have z0 := y0.below hc2
    have z1 := y1.below hc2
    have z2 := y2.below hc2
    have z3 := y3.below hc2
    have hI2 := hI.below hc2
    clear y0 y1 y2 y3 hI hR1
    have hbT := hB1.trans ((hc1.trans (hc2.mono hc1.size)).mono hB1.size)
    have r0 := z2.cell 0 _ rfl
    have r1 := z2.cell 1 _ rfl
    have f0 := z2.frozen 0
    have f1 := z2.frozen 1
    have r2 := z3.cell 0 _ rfl
    have r3 := z3.cell 1 _ rfl
    have f2 := z3.frozen 0
    have f3 := z3.frozen 1
    have u3 := z3.far (g' := w.heap.size + 1 + 1) (by omega) (.bool t) (.slice B k d)
    have u2 := z2.stored (.bool t) (.slice B k d)
    have x3 := u3.stored (.bool t') (.slice B' 0 d')
    have x2 := u2.far (g' := w.heap.size + 1 + 1 + 1) (by omega) (.bool t') (.slice B' 0 d')
    have hF := (hI2.stored z2 (notInt_box _ _ _ _) (.bool t) (.slice B k d)).stored u3 (notInt_box _ _ _ _) (.bool t') (.slice B' 0 d')
    have hG := (hI'.stored z2 (notInt_box _ _ _ _) (.bool t) (.slice B k d)).stored u3 (notInt_box _ _ _ _) (.bool t') (.slice B' 0 d')
    have hbf := below_stored (g := w.heap.size + 1 + 1 + 1) (below_stored (g := w.heap.size + 1 + 1) hbT (by omega) (.bool t) (.slice B k d)) (by omega) (.bool t') (.slice B' 0 d')
    go_wp2_with fail
    refine bodyPost_ret (ret_int2 rfl rfl rfl x2 x3) rfl ?_
    exact ⟨t, _, _, _, t', _, _, _, rfl, hF, hG, hbf⟩
set_option maxRecDepth 100000 in
/-- A negative dividend with a remainder. -/
theorem idivmod_odd {q r : Nat} {zq zr : Int} (hx : RV w (.slice A n c) x L) (hy : RV w (.slice A' n' c') y L') (hy0 : 0 < y) (hL : L ≤ 1000000) (hq : x / y = q) (hr : x % y = r) (hr0 : 0 < r) (hzq : sg (!s') (q + 1) = zq) (hzr : sg false (y - r) = zr) :
    Calls Tryz.prog 93 #[.agg #[.bool true, .slice A n c], .agg #[.bool s', .slice A' n' c']] w fun e w' => ∃ t B k d t' B' k' d', e = .returned (.tuple #[.agg #[.bool t, .slice B k d], .agg #[.bool t', .slice B' k' d'], .bool true]) ∧ NI w' t (.slice B k d) zq (max L 2 + 1) ∧ NI w' t' (.slice B' k' d') zr L' ∧ Below w.heap.size w w' := by
  have HH := Lib.hid (fun W hbW => divmod_qr (W := W) hx hy hy0 hL hq hr hbW)
  have hry : r ≤ y := by rw [← hr]; exact Nat.le_of_lt (Nat.mod_lt _ hy0)
  have HRY := Lib.hid hry
  have HQ := Lib.hid hzq
  have HR := Lib.hid hzr
  have HR0 := Lib.hid hr0
  clear hx hq hr hzq hzr hy0 hr0 hry
  cases s'
  · go_enter Tryz.func93, Tryz.ntmps93
    go_wp2_with fail
    obtain ⟨W, hW, b0, b1, b2, b3, hbW, hsz⟩ := boxes4 w #[.bool true, .slice A n c] #[.bool false, .slice A' n' c'] #[.bool false, .slice none 0 0] #[.bool false, .slice none 0 0] 28 28 28 28
    rw [hW]
    clear hW
    refine ((HH.out W hbW)).mono ?_
    rintro e w1 ⟨B, k, d, B', k', d', rfl, hQ, hR, hb⟩
    have m0 := b0.below hb
    have m1 := b1.below hb
    have m2 := b2.below hb
    have m3 := b3.below hb
    have g0 := m0.cell 0 _ rfl
    have g1 := m1.cell 0 _ rfl
    have hB1 := hbW.trans (hb.mono hbW.size)
    clear b0 b1 b2 b3
    have hk0 : 0 < k' := by rw [(Raw.cap hR.1).1]; exact digs_length_pos HR0.out
    go_wp2_with fail
    refine (fromuint_v 1 (by omega) _).mono ?_
    rintro e w2 ⟨B1, k1, d1, rfl, hO, hb2⟩
    have hR2 := hR.below hb2
    have hQ2 := hQ.below hb2
    have n0 := m0.below hb2
    have n1 := m1.below hb2
    have n2 := m2.below hb2
    have n3 := m3.below hb2
    have hB2 := hB1.trans (hb2.mono hB1.size)
    clear hb2 hR hQ m0 m1 m2 m3 g0 g1
    go_wp2_with fail
    refine (add_v hQ2.rv hO.rv hL (by omega)).mono ?_
    rintro e w3 ⟨B3, k3, d3, rfl, hQ3, hb4⟩
    have hR3 := hR2.below hb4
    have o0 := n0.below hb4
    have o1 := n1.below hb4
    have o2 := n2.below hb4
    have o3 := n3.below hb4
    have g1 := o1.cell 1 _ rfl
    have hB3 := hB2.trans (hb4.mono hB2.size)
    have hy3 := hy.below hB3
    clear hb4 hR2 hQ2 hO n0 n1 n2 n3 hB2
    go_wp2_with fail
    refine (sub_v hy3 hR3.rv HRY.out).mono ?_
    rintro e w4 ⟨B4, k4, d4, rfl, hR4, hb6⟩
    have hQ4 := hQ3.below hb6
    have q0 := o0.below hb6
    have q1 := o1.below hb6
    have q2 := o2.below hb6
    have q3 := o3.below hb6
    have g0 := q0.cell 0 _ rfl
    have hB4 := hB3.trans (hb6.mono hB3.size)
    clear hb6 hR3 hQ3 hy3 o0 o1 o2 o3 g1
    go_wp2_with fail
    refine (signed_v _ hQ4 HQ.out).mono ?_
    rintro e v1 ⟨t, rfl, hI, hc1⟩
    have y0 := q0.below hc1
    have y1 := q1.below hc1
    have y2 := q2.below hc1
    have y3 := q3.below hc1
    have hR1 := NV.below hR4 hc1
    clear hQ4
    go_wp2_with fail
    refine (signed_v _ hR1 HR.out).mono ?_
    rintro e v2 ⟨t', rfl, hI', hc2⟩
    have z0 := y0.below hc2
    have z1 := y1.below hc2
    have z2 := y2.below hc2
    have z3 := y3.below hc2
    have hI2 := hI.below hc2
    clear y0 y1 y2 y3 hI hR1
    have hbT := hB4.trans ((hc1.trans (hc2.mono hc1.size)).mono hB4.size)
    have r0 := z2.cell 0 _ rfl
    have r1 := z2.cell 1 _ rfl
    have f0 := z2.frozen 0
    have f1 := z2.frozen 1
    have r2 := z3.cell 0 _ rfl
    have r3 := z3.cell 1 _ rfl
    have f2 := z3.frozen 0
    have f3 := z3.frozen 1
    have u3 := z3.far (g' := w.heap.size + 1 + 1) (by omega) (.bool t) (.slice B3 k3 d3)
    have u2 := z2.stored (.bool t) (.slice B3 k3 d3)
    have x3 := u3.stored (.bool t') (.slice B4 k4 d4)
    have x2 := u2.far (g' := w.heap.size + 1 + 1 + 1) (by omega) (.bool t') (.slice B4 k4 d4)
    have hF := (hI2.stored z2 (notInt_box _ _ _ _) (.bool t) (.slice B3 k3 d3)).stored u3 (notInt_box _ _ _ _) (.bool t') (.slice B4 k4 d4)
    have hG := (hI'.stored z2 (notInt_box _ _ _ _) (.bool t) (.slice B3 k3 d3)).stored u3 (notInt_box _ _ _ _) (.bool t') (.slice B4 k4 d4)
    have hbf := below_stored (g := w.heap.size + 1 + 1 + 1) (below_stored (g := w.heap.size + 1 + 1) hbT (by omega) (.bool t) (.slice B3 k3 d3)) (by omega) (.bool t') (.slice B4 k4 d4)
    go_wp2_with fail
    refine bodyPost_ret (ret_int2 rfl rfl rfl x2 x3) rfl ?_
    exact ⟨t, _, _, _, t', _, _, _, rfl, hF, hG, hbf⟩
  · go_enter Tryz.func93, Tryz.ntmps93
    go_wp2_with fail
    obtain ⟨W, hW, b0, b1, b2, b3, hbW, hsz⟩ := boxes4 w #[.bool true, .slice A n c] #[.bool true, .slice A' n' c'] #[.bool false, .slice none 0 0] #[.bool false, .slice none 0 0] 28 28 28 28
    rw [hW]
    clear hW
    refine ((HH.out W hbW)).mono ?_
    rintro e w1 ⟨B, k, d, B', k', d', rfl, hQ, hR, hb⟩
    have m0 := b0.below hb
    have m1 := b1.below hb
    have m2 := b2.below hb
    have m3 := b3.below hb
    have g0 := m0.cell 0 _ rfl
    have g1 := m1.cell 0 _ rfl
    have hB1 := hbW.trans (hb.mono hbW.size)
    clear b0 b1 b2 b3
    have hk0 : 0 < k' := by rw [(Raw.cap hR.1).1]; exact digs_length_pos HR0.out
    go_wp2_with fail
    refine (fromuint_v 1 (by omega) _).mono ?_
    rintro e w2 ⟨B1, k1, d1, rfl, hO, hb2⟩
    have hR2 := hR.below hb2
    have hQ2 := hQ.below hb2
    have n0 := m0.below hb2
    have n1 := m1.below hb2
    have n2 := m2.below hb2
    have n3 := m3.below hb2
    have hB2 := hB1.trans (hb2.mono hB1.size)
    clear hb2 hR hQ m0 m1 m2 m3 g0 g1
    go_wp2_with fail
    refine (add_v hQ2.rv hO.rv hL (by omega)).mono ?_
    rintro e w3 ⟨B3, k3, d3, rfl, hQ3, hb4⟩
    have hR3 := hR2.below hb4
    have o0 := n0.below hb4
    have o1 := n1.below hb4
    have o2 := n2.below hb4
    have o3 := n3.below hb4
    have g1 := o1.cell 1 _ rfl
    have hB3 := hB2.trans (hb4.mono hB2.size)
    have hy3 := hy.below hB3
    clear hb4 hR2 hQ2 hO n0 n1 n2 n3 hB2
    go_wp2_with fail
    refine (sub_v hy3 hR3.rv HRY.out).mono ?_
    rintro e w4 ⟨B4, k4, d4, rfl, hR4, hb6⟩
    have hQ4 := hQ3.below hb6
    have q0 := o0.below hb6
    have q1 := o1.below hb6
    have q2 := o2.below hb6
    have q3 := o3.below hb6
    have g0 := q0.cell 0 _ rfl
    have hB4 := hB3.trans (hb6.mono hB3.size)
    clear hb6 hR3 hQ3 hy3 o0 o1 o2 o3 g1
    go_wp2_with fail
    refine (signed_v _ hQ4 HQ.out).mono ?_
    rintro e v1 ⟨t, rfl, hI, hc1⟩
    have y0 := q0.below hc1
    have y1 := q1.below hc1
    have y2 := q2.below hc1
    have y3 := q3.below hc1
    have hR1 := NV.below hR4 hc1
    clear hQ4
    go_wp2_with fail
    refine (signed_v _ hR1 HR.out).mono ?_
    rintro e v2 ⟨t', rfl, hI', hc2⟩
    have z0 := y0.below hc2
    have z1 := y1.below hc2
    have z2 := y2.below hc2
    have z3 := y3.below hc2
    have hI2 := hI.below hc2
    clear y0 y1 y2 y3 hI hR1
    have hbT := hB4.trans ((hc1.trans (hc2.mono hc1.size)).mono hB4.size)
    have r0 := z2.cell 0 _ rfl
    have r1 := z2.cell 1 _ rfl
    have f0 := z2.frozen 0
    have f1 := z2.frozen 1
    have r2 := z3.cell 0 _ rfl
    have r3 := z3.cell 1 _ rfl
    have f2 := z3.frozen 0
    have f3 := z3.frozen 1
    have u3 := z3.far (g' := w.heap.size + 1 + 1) (by omega) (.bool t) (.slice B3 k3 d3)
    have u2 := z2.stored (.bool t) (.slice B3 k3 d3)
    have x3 := u3.stored (.bool t') (.slice B4 k4 d4)
    have x2 := u2.far (g' := w.heap.size + 1 + 1 + 1) (by omega) (.bool t') (.slice B4 k4 d4)
    have hF := (hI2.stored z2 (notInt_box _ _ _ _) (.bool t) (.slice B3 k3 d3)).stored u3 (notInt_box _ _ _ _) (.bool t') (.slice B4 k4 d4)
    have hG := (hI'.stored z2 (notInt_box _ _ _ _) (.bool t) (.slice B3 k3 d3)).stored u3 (notInt_box _ _ _ _) (.bool t') (.slice B4 k4 d4)
    have hbf := below_stored (g := w.heap.size + 1 + 1 + 1) (below_stored (g := w.heap.size + 1 + 1) hbT (by omega) (.bool t) (.slice B3 k3 d3)) (by omega) (.bool t') (.slice B4 k4 d4)
    go_wp2_with fail
    refine bodyPost_ret (ret_int2 rfl rfl rfl x2 x3) rfl ?_
    exact ⟨t, _, _, _, t', _, _, _, rfl, hF, hG, hbf⟩
/-- What quotient and remainder are. -/
def QR (z z' zq zr : Int) : Prop := z = zq * z' + zr ∧ 0 ≤ zr ∧ zr < z'.natAbs
theorem qr_pos {x y : Nat} (s' : Bool) (hy0 : 0 < y) : QR (sg false x) (sg s' y) (sg s' (x / y)) (sg false (x % y)) := by
  have h := Nat.div_add_mod x y
  have h2 := Nat.mod_lt x hy0
  refine ⟨?_, by rw [sg_false]; exact Int.natCast_nonneg _, by rw [sg_abs, sg_false]; omega⟩
  cases s' <;> simp only [sg_true, sg_false, Int.neg_mul_neg] <;> rw [← Int.natCast_mul, Nat.mul_comm (x / y) y, ← Int.natCast_add, h]
theorem qr_even {x y : Nat} (s' : Bool) (hy0 : 0 < y) (hr : x % y = 0) : QR (sg true x) (sg s' y) (sg (!s') (x / y)) 0 := by
  have h := Nat.div_add_mod x y
  rw [hr, Nat.add_zero] at h
  refine ⟨?_, by omega, by rw [sg_abs]; omega⟩
  cases s' <;> simp only [sg_true, sg_false, Bool.not_true, Bool.not_false, Int.neg_mul, Int.mul_neg, Int.add_zero] <;> rw [← Int.natCast_mul, Nat.mul_comm (x / y) y, h]
theorem qr_odd {x y : Nat} (s' : Bool) (hy0 : 0 < y) (hr : 0 < x % y) : QR (sg true x) (sg s' y) (sg (!s') (x / y + 1)) (sg false (y - x % y)) := by
  have h := Nat.div_add_mod x y
  have h2 := Nat.mod_lt x hy0
  refine ⟨?_, by rw [sg_false]; exact Int.natCast_nonneg _, by rw [sg_abs, sg_false]; omega⟩
  have e : ((x / y + 1 : Nat) : Int) * (y : Int) = (x : Int) + (y - x % y : Nat) := by
    rw [← Int.natCast_mul, Nat.add_mul, Nat.one_mul, Nat.mul_comm (x / y) y]; omega
  cases s' <;> simp only [sg_true, sg_false, Bool.not_true, Bool.not_false, Int.neg_mul, Int.mul_neg] <;> rw [e] <;> omega
theorem idivmod_v (h : RI w s (.slice A n c) z L) (h' : RI w s' (.slice A' n' c') z' L') (h0 : z' ≠ 0) (hL : L ≤ 1000000) :
    Calls Tryz.prog 93 #[.agg #[.bool s, .slice A n c], .agg #[.bool s', .slice A' n' c']] w fun e w' => ∃ zq zr t B k d t' B' k' d', e = .returned (.tuple #[.agg #[.bool t, .slice B k d], .agg #[.bool t', .slice B' k' d'], .bool true]) ∧ NI w' t (.slice B k d) zq (max L 2 + 1) ∧ NI w' t' (.slice B' k' d') zr L' ∧ QR z z' zq zr ∧ Below w.heap.size w w' := by
  obtain ⟨x, hx, rfl⟩ := h
  obtain ⟨y, hy, rfl⟩ := h'
  have hy0 : 0 < y := by rcases Nat.eq_zero_or_pos y with rfl | h; · exact absurd (by cases s' <;> rfl) h0
                         · exact h
  cases s
  · refine (idivmod_pos (s' := s') hx hy hy0 hL rfl rfl rfl rfl).mono ?_
    rintro e w' ⟨t, B, k, d, t', B', k', d', he, h1, h2, hb⟩
    exact ⟨_, _, t, B, k, d, t', B', k', d', he, h1, h2, qr_pos s' hy0, hb⟩
  · rcases Nat.eq_zero_or_pos (x % y) with hr | hr
    · refine (idivmod_even (s' := s') hx hy hy0 hL rfl hr rfl).mono ?_
      rintro e w' ⟨t, B, k, d, t', B', k', d', he, h1, h2, hb⟩
      exact ⟨_, _, t, B, k, d, t', B', k', d', he, h1, h2, qr_even s' hy0 hr, hb⟩
    · refine (idivmod_odd (s' := s') hx hy hy0 hL rfl rfl hr rfl rfl).mono ?_
      rintro e w' ⟨t, B, k, d, t', B', k', d', he, h1, h2, hb⟩
      exact ⟨_, _, t, B, k, d, t', B', k', d', he, h1, h2, qr_odd s' hy0 hr, hb⟩
end
theorem wrap_pos {m : Int} (h0 : 0 ≤ m) (h : m < 9223372036854775808) : IntKind.u64.wrap m = m := by
  simp [IntKind.wrap, IntKind.bits, IntKind.signed]; omega
set_option maxRecDepth 100000 in
theorem ifromint_pos (m : Nat) (hm : m < 9223372036854775808) (w : World) :
    Calls Tryz.prog 49 #[.int .i64 (m : Int)] w fun e w' => ∃ t B k d, e = .returned (.agg #[.bool t, .slice B k d]) ∧ NI w' t (.slice B k d) (m : Int) 2 ∧ Below w.heap.size w w' := by
  have hw := wrap_pos (m := (m : Int)) (by omega) (by omega)
  have hm2 : m < 18446744073709551616 := by omega
  go_enter Tryz.func49, Tryz.ntmps49
  go_wp2_with fail
  obtain ⟨W, hW, b0, hbW, hsz⟩ := boxes1 w #[.bool false, .slice none 0 0] 28
  rw [hW]
  refine (fromuint_v m hm2 _).mono ?_
  rintro e w1 ⟨B, k, d, rfl, hN, hb⟩
  have q0 := b0.below hb
  clear hW
  go_wp2_with fail
  refine (signed_v _ hN (z := (m : Int)) rfl).mono ?_
  rintro e w2 ⟨t, rfl, hI, hb2⟩
  have p0 := q0.below hb2
  have r0 := p0.cell 0 _ rfl
  have r1 := p0.cell 1 _ rfl
  have f0 := p0.frozen 0
  have f1 := p0.frozen 1
  have hbT := hbW.trans ((hb.trans (hb2.mono hb.size)).mono hbW.size)
  have hI2 := hI.stored p0 (notInt_box _ _ _ _) (.bool t) (.slice B k d)
  have hbf := below_stored (g := w.heap.size) hbT (by omega) (.bool t) (.slice B k d)
  have hbx := p0.stored (.bool t) (.slice B k d)
  clear b0 q0
  go_wp2_with fail
  refine bodyPost_ret (ret_int rfl rfl hbx) rfl ?_
  exact ⟨t, B, k, d, rfl, hI2, hbf⟩
set_option maxRecDepth 100000 in
theorem ifromint_neg (m : Nat) (hm : m ≤ 9223372036854775808) (hm0 : 0 < m) (w : World) :
    Calls Tryz.prog 49 #[.int .i64 (-(m : Int))] w fun e w' => ∃ t B k d, e = .returned (.agg #[.bool t, .slice B k d]) ∧ NI w' t (.slice B k d) (-(m : Int)) 2 ∧ Below w.heap.size w w' := by
  have hm2 : m < 18446744073709551616 := by omega
  have hw : IntKind.u64.wrap (-(m : Int)) = 18446744073709551616 - (m : Int) := by simp [IntKind.wrap, IntKind.bits, IntKind.signed]; omega
  have hw2 : IntKind.u64.wrap (-(18446744073709551616 - (m : Int))) = (m : Int) := by simp [IntKind.wrap, IntKind.bits, IntKind.signed]; omega
  go_enter Tryz.func49, Tryz.ntmps49
  go_wp2_with fail
  obtain ⟨W, hW, b0, hbW, hsz⟩ := boxes1 w #[.bool false, .slice none 0 0] 28
  rw [hW]
  refine (fromuint_v m hm2 _).mono ?_
  rintro e w1 ⟨B, k, d, rfl, hN, hb⟩
  have q0 := b0.below hb
  clear hW
  go_wp2_with fail
  refine (signed_v _ hN (z := (-(m : Int))) rfl).mono ?_
  rintro e w2 ⟨t, rfl, hI, hb2⟩
  have p0 := q0.below hb2
  have r0 := p0.cell 0 _ rfl
  have r1 := p0.cell 1 _ rfl
  have f0 := p0.frozen 0
  have f1 := p0.frozen 1
  have hbT := hbW.trans ((hb.trans (hb2.mono hb.size)).mono hbW.size)
  have hI2 := hI.stored p0 (notInt_box _ _ _ _) (.bool t) (.slice B k d)
  have hbf := below_stored (g := w.heap.size) hbT (by omega) (.bool t) (.slice B k d)
  have hbx := p0.stored (.bool t) (.slice B k d)
  clear b0 q0
  go_wp2_with fail
  refine bodyPost_ret (ret_int rfl rfl hbx) rfl ?_
  exact ⟨t, B, k, d, rfl, hI2, hbf⟩
theorem ifromint_v (z : Int) (h0 : -9223372036854775808 ≤ z) (h1 : z ≤ 9223372036854775807) (w : World) :
    Calls Tryz.prog 49 #[.int .i64 z] w fun e w' => ∃ t B k d, e = .returned (.agg #[.bool t, .slice B k d]) ∧ NI w' t (.slice B k d) z 2 ∧ Below w.heap.size w w' := by
  rcases Int.lt_trichotomy z 0 with h | h | h
  · obtain ⟨m, rfl⟩ : ∃ m : Nat, z = -(m : Int) := ⟨z.natAbs, by omega⟩
    exact ifromint_neg m (by omega) (by omega) w
  · obtain ⟨m, rfl⟩ : ∃ m : Nat, z = (m : Int) := ⟨z.natAbs, by omega⟩
    exact ifromint_pos m (by omega) w
  · obtain ⟨m, rfl⟩ : ∃ m : Nat, z = (m : Int) := ⟨z.natAbs, by omega⟩
    exact ifromint_pos m (by omega) w
end Go.Proofs.YtfonldogbfkpiaaGreat
