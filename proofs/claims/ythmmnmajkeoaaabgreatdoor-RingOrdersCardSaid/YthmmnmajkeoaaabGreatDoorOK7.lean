/-
  Int, IntC, Int2, Int2b, Int3 in one text.
-/
import Derived.Test.YthmmnmajkeoaaabGreatDoorOBox
import Derived.Test.YthmmnmajkeoaaabGreatDoorOS1
namespace Go.Proofs.YthmmnmajkeoaaabGreatDoor
open Go.RowKit

/-- The integer with a sign and an absolute value. -/
def sg (s : Bool) (x : Nat) : Int := if s then -(x : Int) else (x : Int)
theorem sg_true (x : Nat) : sg true x = -(x : Int) := rfl
theorem sg_false (x : Nat) : sg false x = (x : Int) := rfl
theorem sg_abs (s : Bool) (x : Nat) : (sg s x).natAbs = x := by cases s <;> simp [sg]
theorem sg_neg (s : Bool) (x : Nat) : decide (sg s x < 0) = (s && decide (0 < x)) := by
  cases s
  · simp [sg]
  · simp [sg]
theorem sg_self (z : Int) : sg (decide (z < 0)) z.natAbs = z := by
  unfold sg
  split <;> simp_all <;> omega

/-- s and v read as z, with at most L digits; neither need be in normal form. -/
def RI (w : World) (s : Bool) (v : Value) (z : Int) (L : Nat) : Prop := ∃ x, RV w v x L ∧ z = sg s x
/-- s and v read as z in normal form, with at most L digits. -/
def NI (w : World) (s : Bool) (v : Value) (z : Int) (L : Nat) : Prop := NV w v z.natAbs L ∧ s = decide (z < 0)
section
variable {w w' : World} {v : Value} {s : Bool} {z : Int} {L b : Nat}
theorem NI.ri (h : NI w s v z L) : RI w s v z L := ⟨z.natAbs, h.1.rv, by rw [h.2, sg_self]⟩
theorem NI.below (h : NI w s v z L) (hb : Below w.heap.size w w') : NI w' s v z L := ⟨h.1.below hb, h.2⟩
theorem RI.below (h : RI w s v z L) (hb : Below w.heap.size w w') : RI w' s v z L := by
  obtain ⟨x, h1, h2⟩ := h; exact ⟨x, h1.below hb, h2⟩
theorem RI.rv (h : RI w s v z L) : RV w v z.natAbs L := by
  obtain ⟨x, h1, h2⟩ := h; rw [h2, sg_abs]; exact h1
theorem RI.sg (h : RI w s v z L) : z = sg s z.natAbs := by
  obtain ⟨x, h1, h2⟩ := h; rw [h2, sg_abs]
theorem RI.flip (h : RI w s v z L) : RI w (!s) v (-z) L := by
  obtain ⟨x, h1, h2⟩ := h
  refine ⟨x, h1, ?_⟩
  rw [h2]; cases s <;> simp [sg_true, sg_false]
end

section
variable {A A' : Option Addr} {n n' c c' x y L L' : Nat} {s s' : Bool} {z z' : Int} {w : World}
/-- The sign that signed gives. -/
theorem signed_any (s : Bool) (h : NV w (.slice A n c) x L) :
    Calls Tryz.prog 113 #[.bool s, .slice A n c] w fun e w' => e = .returned (.agg #[.bool (decide (sg s x < 0)), .slice A n c]) ∧ Below w.heap.size w w' := by
  have hn := (Raw.cap h.1).1
  rw [sg_neg]
  rcases Nat.eq_zero_or_pos x with rfl | h0
  · have hn0 : n = 0 := by rw [digs_zero] at hn; exact hn
    subst hn0
    clear h hn
    cases s
    all_goals
      go_enter Tryz.func113, Tryz.ntmps113
      go_wp2_with fail
      go_returns
      exact ⟨rfl, below_alloc w _⟩
  · have hnp : 0 < n := by rw [hn]; exact digs_length_pos h0
    have hd : decide (0 < x) = true := decide_eq_true h0
    rw [hd]
    clear h hn hd h0
    cases s
    all_goals
      go_enter Tryz.func113, Tryz.ntmps113
      go_wp2_with fail
      go_returns
      exact ⟨rfl, below_alloc w _⟩
/-- signed of an absolute value in normal form. -/
theorem signed_v (s : Bool) (h : NV w (.slice A n c) x L) (hz : sg s x = z) :
    Calls Tryz.prog 113 #[.bool s, .slice A n c] w fun e w' => ∃ t, e = .returned (.agg #[.bool t, .slice A n c]) ∧ NI w' t (.slice A n c) z L ∧ Below w.heap.size w w' := by
  refine (signed_any s h).mono ?_
  rintro e w' ⟨rfl, hb⟩
  subst hz
  exact ⟨_, rfl, ⟨by rw [sg_abs]; exact h.below hb, rfl⟩, hb⟩
theorem NI.stored {g : Nat} {t : TypeId} {cs : Array Value} {v : Value} (h : NI w s v z L) (hb : Box w g cs t) (hc : cs.all notInt = true) (u0 u1 : Value) : NI ((w.setCell ⟨g, 0, none⟩ u0).setCell ⟨g, 1, none⟩ u1) s v z L :=
  ⟨h.1.stored hb hc u0 u1, h.2⟩
set_option maxRecDepth 100000 in
theorem inorm_v (h : RI w s (.slice A n c) z L) (hL : L ≤ 1000000) :
    Calls Tryz.prog 107 #[.agg #[.bool s, .slice A n c]] w fun e w' => ∃ t B k d, e = .returned (.agg #[.bool t, .slice B k d]) ∧ NI w' t (.slice B k d) z L ∧ Below w.heap.size w w' := by
  have hs := h.sg
  have hr := h.rv
  have HS := Lib.hid hs
  clear h hs
  go_enter Tryz.func107, Tryz.ntmps107
  go_wp2_with fail
  obtain ⟨W, hW, b0, b1, hbW, hsz⟩ := boxes2 w #[.bool s, .slice A n c] #[.bool false, .slice none 0 0] 61 61
  rw [hW]
  have c0 := b0.cell 0 _ rfl
  have c1 := b0.cell 1 _ rfl
  have hr1 := hr.below hbW
  clear hW hr
  go_region_held3 (fun V => V.cell? ⟨w.heap.size, 0, none⟩ = some (.bool s) ∧ V.cell? ⟨w.heap.size, 1, none⟩ = some (.slice A n c)) (first | exact ⟨c0, c1⟩ | exact ⟨HC0, HC1⟩ | exact ⟨KC0, KC1⟩ | go_keep)
    (first
      | (go_at_call 108; refine (norm_v (w := W.drew) hr1 hL).mono ?_; rintro e w1 ⟨B, k, d, rfl, hN, hb1⟩; have q0 := Box.below (w := W.drew) b0 hb1; have q1 := Box.below (w := W.drew) b1 hb1; have HC0 := q0.cell 0 _ rfl; have HC1 := q0.cell 1 _ rfl)
      | (go_at_call 113; refine (signed_v s hN HS.out.symm).mono ?_; rintro e w2 ⟨t, rfl, hI, hb2⟩; have p0 := q0.below hb2; have p1 := q1.below hb2; have KC0 := p0.cell 0 _ rfl; have KC1 := p0.cell 1 _ rfl; have r0 := p1.cell 0 _ rfl; have r1 := p1.cell 1 _ rfl; have f0 := p1.frozen 0; have f1 := p1.frozen 1))
  have hI2 := hI.stored p1 (notInt_box _ _ _ _) (.bool t) (.slice B k d)
  have hbf : Below w.heap.size w ((w2.setCell ⟨w.heap.size + 1, 0, none⟩ (.bool t)).setCell ⟨w.heap.size + 1, 1, none⟩ (.slice B k d)) := below_stored (hbW.trans (((below_drawn hb1).trans (hb2.mono hb1.size)).mono hbW.size)) (by omega) _ _
  have hbx := p1.stored (.bool t) (.slice B k d)
  go_wp2_with fail
  refine bodyPost_ret (ret_int rfl rfl hbx) rfl ?_
  exact ⟨t, B, k, d, rfl, hI2, hbf⟩
theorem bitsN_pos {x : Nat} (h : 0 < x) : 0 < bitsN x := by
  unfold bitsN topBits
  rw [if_neg (by omega)]
  have h1 := le_of_digs_length h
  have h2 := lt_of_digs_length (Nat.le_refl (digs x).length)
  have h3 := digs_length_pos h
  obtain ⟨m, hm⟩ : ∃ m, (digs x).length = m + 1 := ⟨(digs x).length - 1, by omega⟩
  rw [hm, Nat.add_sub_cancel] at h1 ⊢
  rw [hm, Bs_succ] at h2
  have h4 : 0 < (digs x).getD m 0 := by
    rw [digs_digit, Nat.mod_eq_of_lt (Nat.div_lt_of_lt_mul (by rw [Nat.mul_comm]; exact h2))]
    exact Nat.div_pos h1 (Bs_pos m)
  have h5 : (digs x).getD m 0 < 4294967296 := okD_getD (okD_digs x) m
  have h6 := Lib.bitLen_half ((digs x).getD m 0) (by omega) (by omega)
  omega
/-- The sign of an integer, as an int. -/
theorem isign_v (h : RI w s (.slice A n c) z L) :
    Calls Tryz.prog 101 #[.agg #[.bool s, .slice A n c]] w fun e w' => e = .returned (.int .i64 z.sign) ∧ Below w.heap.size w w' := by
  have hr := h.rv
  have hs := h.sg
  rcases Nat.eq_zero_or_pos z.natAbs with h0 | h0
  · have hz : z = 0 := by omega
    have hbt : bitsN z.natAbs = 0 := by rw [h0]; rfl
    subst hz
    have HB := Lib.hid hbt
    clear h hs h0 hbt
    go_enter Tryz.func101, Tryz.ntmps101
    go_wp2_with fail
    obtain ⟨W, hW, b0, hbW, hsz⟩ := boxes1 w #[.bool s, .slice A n c] 61
    rw [hW]
    refine (bits_v (hr.below hbW)).mono ?_
    rintro e w' ⟨rfl, hb⟩
    rw [HB.out]
    have hbf := hbW.trans (hb.mono hbW.size)
    go_wp2_with fail
    go_returns
    exact ⟨rfl, hbf⟩
  · have hbt : 0 < bitsN z.natAbs := bitsN_pos h0
    generalize hbn : bitsN z.natAbs = bn at hbt
    have HBN := Lib.hid hbn
    have hb0 : ((bn : Int) == 0) = false := by rw [beq_eq_false_iff_ne]; omega
    have HS := Lib.hid hs
    have hzp : z ≠ 0 := by omega
    clear h hs hbn hbt h0
    cases s
    · have hsg : z.sign = 1 := Int.sign_eq_one_of_pos (by have := HS.out; rw [sg_false] at this; omega)
      have HG := Lib.hid hsg
      clear hsg hzp
      go_enter Tryz.func101, Tryz.ntmps101
      go_wp2_with fail
      obtain ⟨W, hW, b0, hbW, hsz⟩ := boxes1 w #[.bool false, .slice A n c] 61
      rw [hW]
      refine (bits_v (hr.below hbW)).mono ?_
      rintro e w' ⟨rfl, hb⟩
      rw [HBN.out]
      have hbf := hbW.trans (hb.mono hbW.size)
      have c0 := (b0.below hb).cell 0 _ rfl
      go_wp2_with fail
      go_returns
      exact ⟨by rw [HG.out]; rfl, hbf⟩
    · have hsg : z.sign = -1 := Int.sign_eq_neg_one_of_neg (by have := HS.out; rw [sg_true] at this; omega)
      have HG := Lib.hid hsg
      clear hsg hzp
      go_enter Tryz.func101, Tryz.ntmps101
      go_wp2_with fail
      obtain ⟨W, hW, b0, hbW, hsz⟩ := boxes1 w #[.bool true, .slice A n c] 61
      rw [hW]
      refine (bits_v (hr.below hbW)).mono ?_
      rintro e w' ⟨rfl, hb⟩
      rw [HBN.out]
      have hbf := hbW.trans (hb.mono hbW.size)
      have c0 := (b0.below hb).cell 0 _ rfl
      go_wp2_with fail
      go_returns
      exact ⟨by rw [HG.out]; rfl, hbf⟩
end
end Go.Proofs.YthmmnmajkeoaaabGreatDoor
namespace Go.Proofs.YthmmnmajkeoaaabGreatDoor
open Go.RowKit

theorem isnan_any (a : Int) (w : World) : Calls Tryz.prog 124 #[.int .i64 a] w fun e w' => e = .returned (.bool false) ∧ w = w' := by
  go_enter Tryz.func124, Tryz.ntmps124
  go_wp2_with fail
  go_returns
  exact ⟨by simp, rfl⟩
theorem compare_any (a b : Int) (w : World) : Calls Tryz.prog 102 #[.int .i64 a, .int .i64 b] w fun e w' => e = .returned (.int .i64 (a - b).sign) ∧ w = w' := by
  rcases Int.lt_trichotomy a b with h | h | h
  · have hr : (a - b).sign = -1 := Int.sign_eq_neg_one_of_neg (by omega)
    rw [hr]
    clear hr
    go_enter Tryz.func102, Tryz.ntmps102
    go_wp2_with fail
    refine (isnan_any a w).mono ?_
    rintro e w' ⟨rfl, rfl⟩
    go_wp2_with fail
    refine (isnan_any b w).mono ?_
    rintro e w' ⟨rfl, rfl⟩
    go_wp2_with fail
    go_returns
    exact ⟨rfl, rfl⟩
  · subst h
    rw [Int.sub_self]
    go_enter Tryz.func102, Tryz.ntmps102
    go_wp2_with fail
    refine (isnan_any a w).mono ?_
    rintro e w' ⟨rfl, rfl⟩
    go_wp2_with fail
    refine (isnan_any a w).mono ?_
    rintro e w' ⟨rfl, rfl⟩
    go_wp2_with fail
    go_returns
    exact ⟨rfl, rfl⟩
  · have hr : (a - b).sign = 1 := Int.sign_eq_one_of_pos (by omega)
    rw [hr]
    clear hr
    go_enter Tryz.func102, Tryz.ntmps102
    go_wp2_with fail
    refine (isnan_any a w).mono ?_
    rintro e w' ⟨rfl, rfl⟩
    go_wp2_with fail
    refine (isnan_any b w).mono ?_
    rintro e w' ⟨rfl, rfl⟩
    go_wp2_with fail
    go_returns
    exact ⟨rfl, rfl⟩

theorem cmpI_sign (x y : Nat) : cmpI x y = ((x : Int) - y).sign := by
  rcases Nat.lt_trichotomy x y with h | h | h
  · rw [cmpI_lt h, Int.sign_eq_neg_one_of_neg (by omega)]
  · subst h; rw [cmpI_eq rfl, Int.sub_self]; rfl
  · rw [cmpI_gt h, Int.sign_eq_one_of_pos (by omega)]
theorem sign_cases (z : Int) : (z < 0 ∧ z.sign = -1) ∨ (z = 0 ∧ z.sign = 0) ∨ (0 < z ∧ z.sign = 1) := by
  rcases Int.lt_trichotomy z 0 with h | h | h
  · exact .inl ⟨h, Int.sign_eq_neg_one_of_neg h⟩
  · exact .inr (.inl ⟨h, by subst h; rfl⟩)
  · exact .inr (.inr ⟨h, Int.sign_eq_one_of_pos h⟩)
theorem sign_le (z : Int) : -1 ≤ z.sign ∧ z.sign ≤ 1 := by rcases sign_cases z with h | h | h <;> omega
theorem NV.more {w : World} {v : Value} {x L L' : Nat} (h : NV w v x L) (hL : L ≤ L') : NV w v x L' := ⟨h.1, Nat.lt_of_lt_of_le h.2 (Bs_mono hL)⟩

section
variable {A A' : Option Addr} {n n' c c' x y L L' : Nat} {s s' : Bool} {z z' : Int} {w : World}
set_option maxRecDepth 100000 in
/-- Integers of different signs. -/
theorem icmp_signs (h : RI w s (.slice A n c) z L) (h' : RI w s' (.slice A' n' c') z' L') {a b k : Int} (hs1 : z.sign = a) (hs2 : z'.sign = b) (hk : (a - b).sign = k) (hk0 : k ≠ 0) :
    Calls Tryz.prog 75 #[.agg #[.bool s, .slice A n c], .agg #[.bool s', .slice A' n' c']] w fun e w' => e = .returned (.int .i64 k) ∧ Below w.heap.size w w' := by
    have HS1 := Lib.hid hs1
    have HS2 := Lib.hid hs2
    have HK := Lib.hid hk
    have hkn : (k != 0) = true := by rw [bne_iff_ne]; exact hk0
    clear hs1 hs2 hk hk0
    go_enter Tryz.func75, Tryz.ntmps75
    go_wp2_with fail
    obtain ⟨W, hW, b0, b1, hbW, hsz⟩ := boxes2 w #[.bool s, .slice A n c] #[.bool s', .slice A' n' c'] 61 61
    rw [hW]
    have c0 := b0.cell 0 _ rfl
    have c1 := b0.cell 1 _ rfl
    clear hW
    go_wp2_with fail
    refine (isign_v (h.below hbW)).mono ?_
    rintro e w1 ⟨rfl, hb1⟩
    rw [HS1.out]
    have q0 := b0.below hb1
    have q1 := b1.below hb1
    have e0 := q1.cell 0 _ rfl
    have e1 := q1.cell 1 _ rfl
    have hbf1 := hbW.trans (hb1.mono hbW.size)
    clear c0 c1 hb1 b0 b1 hbW hsz
    go_wp2_with fail
    refine (isign_v (h'.below hbf1)).mono ?_
    rintro e w2 ⟨rfl, hb2⟩
    rw [HS2.out]
    have p0 := q0.below hb2
    have p1 := q1.below hb2
    have k1 := p0.cell 1 _ rfl
    have l1 := p1.cell 1 _ rfl
    have hbf := hbf1.trans (hb2.mono hbf1.size)
    clear e0 e1 hb2 q0 q1 hbf1
    go_wp2_with fail
    refine (compare_any _ _ w2).mono ?_
    rintro e w2 ⟨rfl, rfl⟩
    rw [HK.out]
    go_wp2_with fail
    go_returns
    exact ⟨rfl, hbf⟩
set_option maxRecDepth 100000 in
/-- Integers of one sign. -/
theorem icmp_abs (h : RI w s (.slice A n c) z L) (h' : RI w s' (.slice A' n' c') z' L') {a k : Int} (hs1 : z.sign = a) (hs2 : z'.sign = a) (hk : cmpI z.natAbs z'.natAbs = k) (hw : IntKind.i64.wrap (a * k) = a * k) :
    Calls Tryz.prog 75 #[.agg #[.bool s, .slice A n c], .agg #[.bool s', .slice A' n' c']] w fun e w' => e = .returned (.int .i64 (a * k)) ∧ Below w.heap.size w w' := by
    have HS1 := Lib.hid hs1
    have HS2 := Lib.hid hs2
    have HK := Lib.hid hk
    have hr := h.rv
    have hr' := h'.rv
    clear hs1 hs2 hk
    go_enter Tryz.func75, Tryz.ntmps75
    go_wp2_with fail
    obtain ⟨W, hW, b0, b1, hbW, hsz⟩ := boxes2 w #[.bool s, .slice A n c] #[.bool s', .slice A' n' c'] 61 61
    rw [hW]
    have c0 := b0.cell 0 _ rfl
    have c1 := b0.cell 1 _ rfl
    clear hW
    go_wp2_with fail
    refine (isign_v (h.below hbW)).mono ?_
    rintro e w1 ⟨rfl, hb1⟩
    rw [HS1.out]
    have q0 := b0.below hb1
    have q1 := b1.below hb1
    have e0 := q1.cell 0 _ rfl
    have e1 := q1.cell 1 _ rfl
    have hbf1 := hbW.trans (hb1.mono hbW.size)
    clear c0 c1 hb1 b0 b1 hbW hsz
    go_wp2_with fail
    refine (isign_v (h'.below hbf1)).mono ?_
    rintro e w2 ⟨rfl, hb2⟩
    rw [HS2.out]
    have p0 := q0.below hb2
    have p1 := q1.below hb2
    have k1 := p0.cell 1 _ rfl
    have l1 := p1.cell 1 _ rfl
    have hbf := hbf1.trans (hb2.mono hbf1.size)
    clear e0 e1 hb2 q0 q1 hbf1
    go_wp2_with fail
    refine (compare_any _ _ w2).mono ?_
    rintro e w2 ⟨rfl, rfl⟩
    rw [Int.sub_self, show (0 : Int).sign = 0 from rfl]
    go_wp2_with fail
    refine (cmp_v (hr.below hbf) (hr'.below hbf)).mono ?_
    rintro e w3 ⟨rfl, hb3⟩
    rw [HK.out]
    have hbf3 := hbf.trans (hb3.mono hbf.size)
    go_wp2_with fail
    go_returns
    exact ⟨rfl, hbf3⟩
theorem icmp_v (h : RI w s (.slice A n c) z L) (h' : RI w s' (.slice A' n' c') z' L') :
    Calls Tryz.prog 75 #[.agg #[.bool s, .slice A n c], .agg #[.bool s', .slice A' n' c']] w fun e w' => e = .returned (.int .i64 (z - z').sign) ∧ Below w.heap.size w w' := by
  by_cases hne : z.sign = z'.sign
  · have hr : (z - z').sign = z.sign * cmpI z.natAbs z'.natAbs := by
      rw [cmpI_sign]
      rcases sign_cases z with ⟨h1, h2⟩ | ⟨h1, h2⟩ | ⟨h1, h2⟩ <;> rcases sign_cases z' with ⟨k1, k2⟩ | ⟨k1, k2⟩ | ⟨k1, k2⟩ <;> rw [h2, k2] at hne <;> (try omega)
      · rw [h2, Int.neg_mul, Int.one_mul, ← Int.sign_neg]; congr 1; omega
      · rw [h1, k1]; rfl
      · rw [h2, Int.one_mul]; congr 1; omega
    rw [hr]
    have hk := sign_le (z - z')
    rw [hr] at hk
    exact icmp_abs h h' rfl hne.symm rfl (by generalize z.sign * cmpI z.natAbs z'.natAbs = q at hk; simp [IntKind.wrap, IntKind.bits, IntKind.signed]; omega)
  · have hk : (z.sign - z'.sign).sign = (z - z').sign := by
      rcases sign_cases z with ⟨h1, h2⟩ | ⟨h1, h2⟩ | ⟨h1, h2⟩ <;> rcases sign_cases z' with ⟨k1, k2⟩ | ⟨k1, k2⟩ | ⟨k1, k2⟩ <;> rw [h2, k2] at hne <;> (try omega)
      all_goals
        rw [h2, k2]
        rcases sign_cases (z - z') with ⟨m1, m2⟩ | ⟨m1, m2⟩ | ⟨m1, m2⟩ <;> first | (rw [m2]; rfl) | omega
    refine icmp_signs h h' rfl rfl hk ?_
    intro h0
    have := Int.sign_eq_zero_iff_zero.1 h0
    exact hne (by rw [show z = z' by omega])
end
end Go.Proofs.YthmmnmajkeoaaabGreatDoor
namespace Go.Proofs.YthmmnmajkeoaaabGreatDoor
open Go.RowKit
section
variable {A A' : Option Addr} {n n' c c' x y L L' : Nat} {s s' : Bool} {z z' : Int} {w : World}
theorem sub_no_v (hx : RV w (.slice A n c) x L) (hy : RV w (.slice A' n' c') y L') (h : x < y) :
    Calls Tryz.prog 127 #[.slice A n c, .slice A' n' c'] w fun e w' => e = .returned (.tuple #[.slice none 0 0, .bool false]) ∧ Below w.heap.size w w' := by
  obtain ⟨ds, h1, h2, h3⟩ := hx
  obtain ⟨es, k1, k2, k3⟩ := hy
  exact sub_lt h1 k1 (Lib.hid h2) (Lib.hid k2) h
set_option maxRecDepth 100000 in
theorem iadd_same (s : Bool) (hx : RV w (.slice A n c) x L) (hy : RV w (.slice A' n' c') y L') (hL : L ≤ 1000000) (hL' : L' ≤ 1000000) (hz : sg s (x + y) = z) :
    Calls Tryz.prog 105 #[.agg #[.bool s, .slice A n c], .agg #[.bool s, .slice A' n' c']] w fun e w' => ∃ t B k d, e = .returned (.agg #[.bool t, .slice B k d]) ∧ NI w' t (.slice B k d) z (max L L' + 1) ∧ Below w.heap.size w w' := by
  have HZ := Lib.hid hz
  clear hz
  cases s
  · go_enter Tryz.func105, Tryz.ntmps105
    go_wp2_with fail
    obtain ⟨W, hW, b0, b1, b2, hbW, hsz⟩ := boxes3 w #[.bool false, .slice A n c] #[.bool false, .slice A' n' c'] #[.bool false, .slice none 0 0] 61 61 61
    rw [hW]
    have a0 := b0.cell 0 _ rfl
    have a1 := b0.cell 1 _ rfl
    have d0 := b1.cell 0 _ rfl
    have d1 := b1.cell 1 _ rfl
    have hx1 := hx.below hbW
    have hy1 := hy.below hbW
    clear hW hx hy
    go_wp2_with fail
    go_region_held3 (fun V => V.cell? ⟨w.heap.size, 0, none⟩ = some (.bool false) ∧ V.cell? ⟨w.heap.size, 1, none⟩ = some (.slice A n c) ∧ V.cell? ⟨w.heap.size + 1, 0, none⟩ = some (.bool false) ∧ V.cell? ⟨w.heap.size + 1, 1, none⟩ = some (.slice A' n' c')) (first | exact ⟨a0, a1, d0, d1⟩ | exact HC | exact KC | exact ⟨(p0.far (by omega) _ _).cell 0 _ rfl, (p0.far (by omega) _ _).cell 1 _ rfl, (p1.far (by omega) _ _).cell 0 _ rfl, (p1.far (by omega) _ _).cell 1 _ rfl⟩ | go_keep)
      (first
        | (go_at_call 126; refine (add_v (w := W.drew) hx1 hy1 hL hL').mono ?_; rintro e w1 ⟨B, k, d, rfl, hN, hb1⟩; have hb1' := below_drawn hb1; have q0 := b0.below hb1'; have q1 := b1.below hb1'; have q2 := b2.below hb1'; have HC := And.intro (q0.cell 0 _ rfl) (And.intro (q0.cell 1 _ rfl) (And.intro (q1.cell 0 _ rfl) (q1.cell 1 _ rfl))))
        | (go_at_call 113; refine (signed_v _ hN HZ.out).mono ?_; rintro e w2 ⟨t, rfl, hI, hb2⟩; have p0 := q0.below hb2; have p1 := q1.below hb2; have p2 := q2.below hb2; have KC := And.intro (p0.cell 0 _ rfl) (And.intro (p0.cell 1 _ rfl) (And.intro (p1.cell 0 _ rfl) (p1.cell 1 _ rfl))); have r0 := p2.cell 0 _ rfl; have r1 := p2.cell 1 _ rfl; have f0 := p2.frozen 0; have f1 := p2.frozen 1; have hbT := hbW.trans ((hb1'.trans (hb2.mono hb1'.size)).mono hbW.size)))
    have hI2 := hI.stored p2 (notInt_box _ _ _ _) (.bool t) (.slice B k d)
    have hbf := below_stored (g := w.heap.size + 1 + 1) hbT (by omega) (.bool t) (.slice B k d)
    have hbx := p2.stored (.bool t) (.slice B k d)
    go_wp2_with fail
    refine bodyPost_ret (ret_int rfl rfl hbx) rfl ?_
    exact ⟨t, B, k, d, rfl, hI2, hbf⟩
  · go_enter Tryz.func105, Tryz.ntmps105
    go_wp2_with fail
    obtain ⟨W, hW, b0, b1, b2, hbW, hsz⟩ := boxes3 w #[.bool true, .slice A n c] #[.bool true, .slice A' n' c'] #[.bool false, .slice none 0 0] 61 61 61
    rw [hW]
    have a0 := b0.cell 0 _ rfl
    have a1 := b0.cell 1 _ rfl
    have d0 := b1.cell 0 _ rfl
    have d1 := b1.cell 1 _ rfl
    have hx1 := hx.below hbW
    have hy1 := hy.below hbW
    clear hW hx hy
    go_wp2_with fail
    go_region_held3 (fun V => V.cell? ⟨w.heap.size, 0, none⟩ = some (.bool true) ∧ V.cell? ⟨w.heap.size, 1, none⟩ = some (.slice A n c) ∧ V.cell? ⟨w.heap.size + 1, 0, none⟩ = some (.bool true) ∧ V.cell? ⟨w.heap.size + 1, 1, none⟩ = some (.slice A' n' c')) (first | exact ⟨a0, a1, d0, d1⟩ | exact HC | exact KC | exact ⟨(p0.far (by omega) _ _).cell 0 _ rfl, (p0.far (by omega) _ _).cell 1 _ rfl, (p1.far (by omega) _ _).cell 0 _ rfl, (p1.far (by omega) _ _).cell 1 _ rfl⟩ | go_keep)
      (first
        | (go_at_call 126; refine (add_v (w := W.drew) hx1 hy1 hL hL').mono ?_; rintro e w1 ⟨B, k, d, rfl, hN, hb1⟩; have hb1' := below_drawn hb1; have q0 := b0.below hb1'; have q1 := b1.below hb1'; have q2 := b2.below hb1'; have HC := And.intro (q0.cell 0 _ rfl) (And.intro (q0.cell 1 _ rfl) (And.intro (q1.cell 0 _ rfl) (q1.cell 1 _ rfl))))
        | (go_at_call 113; refine (signed_v _ hN HZ.out).mono ?_; rintro e w2 ⟨t, rfl, hI, hb2⟩; have p0 := q0.below hb2; have p1 := q1.below hb2; have p2 := q2.below hb2; have KC := And.intro (p0.cell 0 _ rfl) (And.intro (p0.cell 1 _ rfl) (And.intro (p1.cell 0 _ rfl) (p1.cell 1 _ rfl))); have r0 := p2.cell 0 _ rfl; have r1 := p2.cell 1 _ rfl; have f0 := p2.frozen 0; have f1 := p2.frozen 1; have hbT := hbW.trans ((hb1'.trans (hb2.mono hb1'.size)).mono hbW.size)))
    have hI2 := hI.stored p2 (notInt_box _ _ _ _) (.bool t) (.slice B k d)
    have hbf := below_stored (g := w.heap.size + 1 + 1) hbT (by omega) (.bool t) (.slice B k d)
    have hbx := p2.stored (.bool t) (.slice B k d)
    go_wp2_with fail
    refine bodyPost_ret (ret_int rfl rfl hbx) rfl ?_
    exact ⟨t, B, k, d, rfl, hI2, hbf⟩
end
end Go.Proofs.YthmmnmajkeoaaabGreatDoor
namespace Go.Proofs.YthmmnmajkeoaaabGreatDoor
open Go.RowKit
section
variable {A A' : Option Addr} {n n' c c' x y L L' : Nat} {s s' : Bool} {z z' : Int} {w : World}
set_option maxRecDepth 100000 in
theorem iadd_ge (hs : (s = true ∧ s' = false) ∨ (s = false ∧ s' = true)) (hx : RV w (.slice A n c) x L) (hy : RV w (.slice A' n' c') y L') (hle : y ≤ x) (hz : sg s (x - y) = z) :
    Calls Tryz.prog 105 #[.agg #[.bool s, .slice A n c], .agg #[.bool s', .slice A' n' c']] w fun e w' => ∃ t B k d, e = .returned (.agg #[.bool t, .slice B k d]) ∧ NI w' t (.slice B k d) z (max L L' + 1) ∧ Below w.heap.size w w' := by
  have HZ := Lib.hid hz
  have HLE := Lib.hid hle
  clear hz hle
  rcases hs with ⟨rfl, rfl⟩ | ⟨rfl, rfl⟩
  · go_enter Tryz.func105, Tryz.ntmps105
    go_wp2_with fail
    obtain ⟨W, hW, b0, b1, b2, hbW, hsz⟩ := boxes3 w #[.bool true, .slice A n c] #[.bool false, .slice A' n' c'] #[.bool false, .slice none 0 0] 61 61 61
    rw [hW]
    have a0 := b0.cell 0 _ rfl
    have a1 := b0.cell 1 _ rfl
    have d0 := b1.cell 0 _ rfl
    have d1 := b1.cell 1 _ rfl
    have hx1 := hx.below hbW
    have hy1 := hy.below hbW
    clear hW hx hy
    go_wp2_with fail
    refine (sub_v hx1 hy1 HLE.out).mono ?_
    rintro e w1 ⟨B, k, d, rfl, hN0, hb1'⟩
    have hN := hN0.more (L' := max L L' + 1) (by omega)
    have q0 := b0.below hb1'
    have q1 := b1.below hb1'
    have q2 := b2.below hb1'
    have e0 := q0.cell 0 _ rfl
    clear a0 a1 d0 d1 hx1 hy1 hN0
    go_wp2_with fail
    refine (signed_v _ hN HZ.out).mono ?_
    rintro e w2 ⟨t, rfl, hI, hb2⟩
    have p2 := q2.below hb2
    have r0 := p2.cell 0 _ rfl
    have r1 := p2.cell 1 _ rfl
    have f0 := p2.frozen 0
    have f1 := p2.frozen 1
    have hbT := hbW.trans ((hb1'.trans (hb2.mono hb1'.size)).mono hbW.size)
    clear q0 q1 q2
    have hI2 := hI.stored p2 (notInt_box _ _ _ _) (.bool t) (.slice B k d)
    have hbf := below_stored (g := w.heap.size + 1 + 1) hbT (by omega) (.bool t) (.slice B k d)
    have hbx := p2.stored (.bool t) (.slice B k d)
    go_wp2_with fail
    refine bodyPost_ret (ret_int rfl rfl hbx) rfl ?_
    exact ⟨t, B, k, d, rfl, hI2, hbf⟩
  · go_enter Tryz.func105, Tryz.ntmps105
    go_wp2_with fail
    obtain ⟨W, hW, b0, b1, b2, hbW, hsz⟩ := boxes3 w #[.bool false, .slice A n c] #[.bool true, .slice A' n' c'] #[.bool false, .slice none 0 0] 61 61 61
    rw [hW]
    have a0 := b0.cell 0 _ rfl
    have a1 := b0.cell 1 _ rfl
    have d0 := b1.cell 0 _ rfl
    have d1 := b1.cell 1 _ rfl
    have hx1 := hx.below hbW
    have hy1 := hy.below hbW
    clear hW hx hy
    go_wp2_with fail
    refine (sub_v hx1 hy1 HLE.out).mono ?_
    rintro e w1 ⟨B, k, d, rfl, hN0, hb1'⟩
    have hN := hN0.more (L' := max L L' + 1) (by omega)
    have q0 := b0.below hb1'
    have q1 := b1.below hb1'
    have q2 := b2.below hb1'
    have e0 := q0.cell 0 _ rfl
    clear a0 a1 d0 d1 hx1 hy1 hN0
    go_wp2_with fail
    refine (signed_v _ hN HZ.out).mono ?_
    rintro e w2 ⟨t, rfl, hI, hb2⟩
    have p2 := q2.below hb2
    have r0 := p2.cell 0 _ rfl
    have r1 := p2.cell 1 _ rfl
    have f0 := p2.frozen 0
    have f1 := p2.frozen 1
    have hbT := hbW.trans ((hb1'.trans (hb2.mono hb1'.size)).mono hbW.size)
    clear q0 q1 q2
    have hI2 := hI.stored p2 (notInt_box _ _ _ _) (.bool t) (.slice B k d)
    have hbf := below_stored (g := w.heap.size + 1 + 1) hbT (by omega) (.bool t) (.slice B k d)
    have hbx := p2.stored (.bool t) (.slice B k d)
    go_wp2_with fail
    refine bodyPost_ret (ret_int rfl rfl hbx) rfl ?_
    exact ⟨t, B, k, d, rfl, hI2, hbf⟩
set_option maxRecDepth 100000 in
theorem iadd_lt (hs : (s = true ∧ s' = false) ∨ (s = false ∧ s' = true)) (hx : RV w (.slice A n c) x L) (hy : RV w (.slice A' n' c') y L') (hlt : x < y) (hz : sg s' (y - x) = z) :
    Calls Tryz.prog 105 #[.agg #[.bool s, .slice A n c], .agg #[.bool s', .slice A' n' c']] w fun e w' => ∃ t B k d, e = .returned (.agg #[.bool t, .slice B k d]) ∧ NI w' t (.slice B k d) z (max L L' + 1) ∧ Below w.heap.size w w' := by
  have HZ := Lib.hid hz
  have HLE := Lib.hid hlt
  clear hz hlt
  rcases hs with ⟨rfl, rfl⟩ | ⟨rfl, rfl⟩
  · go_enter Tryz.func105, Tryz.ntmps105
    go_wp2_with fail
    obtain ⟨W, hW, b0, b1, b2, hbW, hsz⟩ := boxes3 w #[.bool true, .slice A n c] #[.bool false, .slice A' n' c'] #[.bool false, .slice none 0 0] 61 61 61
    rw [hW]
    have a0 := b0.cell 0 _ rfl
    have a1 := b0.cell 1 _ rfl
    have d0 := b1.cell 0 _ rfl
    have d1 := b1.cell 1 _ rfl
    have hx1 := hx.below hbW
    have hy1 := hy.below hbW
    clear hW hx hy
    go_wp2_with fail
    refine (sub_no_v hx1 hy1 HLE.out).mono ?_
    rintro e w0 ⟨rfl, hb0⟩
    have m0 := b0.below hb0
    have m1 := b1.below hb0
    have m2 := b2.below hb0
    have i1 := m0.cell 1 _ rfl
    have j1 := m1.cell 1 _ rfl
    have hx2 := hx1.below hb0
    have hy2 := hy1.below hb0
    clear a0 a1 d0 d1 hx1 hy1
    go_wp2_with fail
    refine (sub_v hy2 hx2 (Nat.le_of_lt HLE.out)).mono ?_
    rintro e w1 ⟨B, k, d, rfl, hN0, hb1⟩
    have hN := hN0.more (L' := max L L' + 1) (by omega)
    have hb1' := hb0.trans (hb1.mono hb0.size)
    have q0 := m0.below hb1
    have q1 := m1.below hb1
    have q2 := m2.below hb1
    have e0 := q1.cell 0 _ rfl
    clear i1 j1 hx2 hy2 hN0 b0 b1 b2 m0 m1 m2
    go_wp2_with fail
    refine (signed_v _ hN HZ.out).mono ?_
    rintro e w2 ⟨t, rfl, hI, hb2⟩
    have p2 := q2.below hb2
    have r0 := p2.cell 0 _ rfl
    have r1 := p2.cell 1 _ rfl
    have f0 := p2.frozen 0
    have f1 := p2.frozen 1
    have hbT := hbW.trans ((hb1'.trans (hb2.mono hb1'.size)).mono hbW.size)
    clear q0 q1 q2
    have hI2 := hI.stored p2 (notInt_box _ _ _ _) (.bool t) (.slice B k d)
    have hbf := below_stored (g := w.heap.size + 1 + 1) hbT (by omega) (.bool t) (.slice B k d)
    have hbx := p2.stored (.bool t) (.slice B k d)
    go_wp2_with fail
    refine bodyPost_ret (ret_int rfl rfl hbx) rfl ?_
    exact ⟨t, B, k, d, rfl, hI2, hbf⟩
  · go_enter Tryz.func105, Tryz.ntmps105
    go_wp2_with fail
    obtain ⟨W, hW, b0, b1, b2, hbW, hsz⟩ := boxes3 w #[.bool false, .slice A n c] #[.bool true, .slice A' n' c'] #[.bool false, .slice none 0 0] 61 61 61
    rw [hW]
    have a0 := b0.cell 0 _ rfl
    have a1 := b0.cell 1 _ rfl
    have d0 := b1.cell 0 _ rfl
    have d1 := b1.cell 1 _ rfl
    have hx1 := hx.below hbW
    have hy1 := hy.below hbW
    clear hW hx hy
    go_wp2_with fail
    refine (sub_no_v hx1 hy1 HLE.out).mono ?_
    rintro e w0 ⟨rfl, hb0⟩
    have m0 := b0.below hb0
    have m1 := b1.below hb0
    have m2 := b2.below hb0
    have i1 := m0.cell 1 _ rfl
    have j1 := m1.cell 1 _ rfl
    have hx2 := hx1.below hb0
    have hy2 := hy1.below hb0
    clear a0 a1 d0 d1 hx1 hy1
    go_wp2_with fail
    refine (sub_v hy2 hx2 (Nat.le_of_lt HLE.out)).mono ?_
    rintro e w1 ⟨B, k, d, rfl, hN0, hb1⟩
    have hN := hN0.more (L' := max L L' + 1) (by omega)
    have hb1' := hb0.trans (hb1.mono hb0.size)
    have q0 := m0.below hb1
    have q1 := m1.below hb1
    have q2 := m2.below hb1
    have e0 := q1.cell 0 _ rfl
    clear i1 j1 hx2 hy2 hN0 b0 b1 b2 m0 m1 m2
    go_wp2_with fail
    refine (signed_v _ hN HZ.out).mono ?_
    rintro e w2 ⟨t, rfl, hI, hb2⟩
    have p2 := q2.below hb2
    have r0 := p2.cell 0 _ rfl
    have r1 := p2.cell 1 _ rfl
    have f0 := p2.frozen 0
    have f1 := p2.frozen 1
    have hbT := hbW.trans ((hb1'.trans (hb2.mono hb1'.size)).mono hbW.size)
    clear q0 q1 q2
    have hI2 := hI.stored p2 (notInt_box _ _ _ _) (.bool t) (.slice B k d)
    have hbf := below_stored (g := w.heap.size + 1 + 1) hbT (by omega) (.bool t) (.slice B k d)
    have hbx := p2.stored (.bool t) (.slice B k d)
    go_wp2_with fail
    refine bodyPost_ret (ret_int rfl rfl hbx) rfl ?_
    exact ⟨t, B, k, d, rfl, hI2, hbf⟩
theorem iadd_v (h : RI w s (.slice A n c) z L) (h' : RI w s' (.slice A' n' c') z' L') (hL : L ≤ 1000000) (hL' : L' ≤ 1000000) :
    Calls Tryz.prog 105 #[.agg #[.bool s, .slice A n c], .agg #[.bool s', .slice A' n' c']] w fun e w' => ∃ t B k d, e = .returned (.agg #[.bool t, .slice B k d]) ∧ NI w' t (.slice B k d) (z + z') (max L L' + 1) ∧ Below w.heap.size w w' := by
  obtain ⟨x, hx, rfl⟩ := h
  obtain ⟨y, hy, rfl⟩ := h'
  by_cases hs : s = s'
  · subst hs
    exact iadd_same s hx hy hL hL' (by cases s <;> simp [sg] <;> omega)
  · have hs' : (s = true ∧ s' = false) ∨ (s = false ∧ s' = true) := by cases s <;> cases s' <;> simp_all
    rcases Nat.lt_or_ge x y with hlt | hle
    · exact iadd_lt hs' hx hy hlt (by rcases hs' with ⟨rfl, rfl⟩ | ⟨rfl, rfl⟩ <;> simp [sg] <;> omega)
    · exact iadd_ge hs' hx hy hle (by rcases hs' with ⟨rfl, rfl⟩ | ⟨rfl, rfl⟩ <;> simp [sg] <;> omega)
set_option maxRecDepth 100000 in
theorem imul_v (h : RI w s (.slice A n c) z L) (h' : RI w s' (.slice A' n' c') z' L') (hL : L ≤ 1000000) (hL' : L' ≤ 1000000) :
    Calls Tryz.prog 104 #[.agg #[.bool s, .slice A n c], .agg #[.bool s', .slice A' n' c']] w fun e w' => ∃ t B k d, e = .returned (.agg #[.bool t, .slice B k d]) ∧ NI w' t (.slice B k d) (z * z') (L + L') ∧ Below w.heap.size w w' := by
  obtain ⟨x, hx, rfl⟩ := h
  obtain ⟨y, hy, rfl⟩ := h'
  have hz : sg (s != s') (x * y) = sg s x * sg s' y := by
    cases s <;> cases s' <;> simp [sg, Int.neg_mul, Int.mul_neg]
  have HZ := Lib.hid hz
  clear hz
  generalize sg s x * sg s' y = z at *
  go_enter Tryz.func104, Tryz.ntmps104
  go_wp2_with fail
  obtain ⟨W, hW, b0, b1, b2, hbW, hsz⟩ := boxes3 w #[.bool s, .slice A n c] #[.bool s', .slice A' n' c'] #[.bool false, .slice none 0 0] 61 61 61
  rw [hW]
  have a0 := b0.cell 0 _ rfl
  have a1 := b0.cell 1 _ rfl
  have d0 := b1.cell 0 _ rfl
  have d1 := b1.cell 1 _ rfl
  have hx1 := hx.below hbW
  have hy1 := hy.below hbW
  clear hW hx hy
  go_region_held3 (fun V => V.cell? ⟨w.heap.size, 0, none⟩ = some (.bool s) ∧ V.cell? ⟨w.heap.size, 1, none⟩ = some (.slice A n c) ∧ V.cell? ⟨w.heap.size + 1, 0, none⟩ = some (.bool s') ∧ V.cell? ⟨w.heap.size + 1, 1, none⟩ = some (.slice A' n' c')) (first | exact ⟨a0, a1, d0, d1⟩ | exact HC | exact KC | exact ⟨(p0.far (by omega) _ _).cell 0 _ rfl, (p0.far (by omega) _ _).cell 1 _ rfl, (p1.far (by omega) _ _).cell 0 _ rfl, (p1.far (by omega) _ _).cell 1 _ rfl⟩ | go_keep)
    (first
      | (go_at_call 106; refine (mul_v (w := W.drew) hx1 hy1 hL hL').mono ?_; rintro e w1 ⟨B, k, d, rfl, hN, hb1⟩; have hb1' := below_drawn hb1; have q0 := b0.below hb1'; have q1 := b1.below hb1'; have q2 := b2.below hb1'; have HC := And.intro (q0.cell 0 _ rfl) (And.intro (q0.cell 1 _ rfl) (And.intro (q1.cell 0 _ rfl) (q1.cell 1 _ rfl))))
      | (go_at_call 113; refine (signed_v _ hN HZ.out).mono ?_; rintro e w2 ⟨t, rfl, hI, hb2⟩; have p0 := q0.below hb2; have p1 := q1.below hb2; have p2 := q2.below hb2; have KC := And.intro (p0.cell 0 _ rfl) (And.intro (p0.cell 1 _ rfl) (And.intro (p1.cell 0 _ rfl) (p1.cell 1 _ rfl))); have r0 := p2.cell 0 _ rfl; have r1 := p2.cell 1 _ rfl; have f0 := p2.frozen 0; have f1 := p2.frozen 1; have hbT := hbW.trans ((hb1'.trans (hb2.mono hb1'.size)).mono hbW.size)))
  have hI2 := hI.stored p2 (notInt_box _ _ _ _) (.bool t) (.slice B k d)
  have hbf := below_stored (g := w.heap.size + 1 + 1) hbT (by omega) (.bool t) (.slice B k d)
  have hbx := p2.stored (.bool t) (.slice B k d)
  go_wp2_with fail
  refine bodyPost_ret (ret_int rfl rfl hbx) rfl ?_
  exact ⟨t, B, k, d, rfl, hI2, hbf⟩
end
end Go.Proofs.YthmmnmajkeoaaabGreatDoor
namespace Go.Proofs.YthmmnmajkeoaaabGreatDoor
open Go.RowKit

section
variable {A A' : Option Addr} {n n' c c' x y L L' : Nat} {s s' : Bool} {z z' : Int} {w : World}
end
theorem wrap_pos {m : Int} (h0 : 0 ≤ m) (h : m < 9223372036854775808) : IntKind.u64.wrap m = m := by
  simp [IntKind.wrap, IntKind.bits, IntKind.signed]; omega
set_option maxRecDepth 100000 in
theorem ifromint_pos (m : Nat) (hm : m < 9223372036854775808) (w : World) :
    Calls Tryz.prog 82 #[.int .i64 (m : Int)] w fun e w' => ∃ t B k d, e = .returned (.agg #[.bool t, .slice B k d]) ∧ NI w' t (.slice B k d) (m : Int) 2 ∧ Below w.heap.size w w' := by
  have hw := wrap_pos (m := (m : Int)) (by omega) (by omega)
  have hm2 : m < 18446744073709551616 := by omega
  go_enter Tryz.func82, Tryz.ntmps82
  go_wp2_with fail
  obtain ⟨W, hW, b0, hbW, hsz⟩ := boxes1 w #[.bool false, .slice none 0 0] 61
  rw [hW]
  refine (fromuint_v m hm2 _).mono ?_
  rintro e w1 ⟨B, k, d, rfl, hN, hb⟩
  have q0 := b0.below hb
  clear hW
  go_wp2_with fail
  refine (signed_v _ hN (z := (m : Int)) rfl).mono ?_
  rintro e w2 ⟨t, rfl, hI, hb2⟩
  have p0 := q0.below hb2
  have r0 := p0.cell 0 _ rfl
  have r1 := p0.cell 1 _ rfl
  have f0 := p0.frozen 0
  have f1 := p0.frozen 1
  have hbT := hbW.trans ((hb.trans (hb2.mono hb.size)).mono hbW.size)
  have hI2 := hI.stored p0 (notInt_box _ _ _ _) (.bool t) (.slice B k d)
  have hbf := below_stored (g := w.heap.size) hbT (by omega) (.bool t) (.slice B k d)
  have hbx := p0.stored (.bool t) (.slice B k d)
  clear b0 q0
  go_wp2_with fail
  refine bodyPost_ret (ret_int rfl rfl hbx) rfl ?_
  exact ⟨t, B, k, d, rfl, hI2, hbf⟩
set_option maxRecDepth 100000 in
theorem ifromint_neg (m : Nat) (hm : m ≤ 9223372036854775808) (hm0 : 0 < m) (w : World) :
    Calls Tryz.prog 82 #[.int .i64 (-(m : Int))] w fun e w' => ∃ t B k d, e = .returned (.agg #[.bool t, .slice B k d]) ∧ NI w' t (.slice B k d) (-(m : Int)) 2 ∧ Below w.heap.size w w' := by
  have hm2 : m < 18446744073709551616 := by omega
  have hw : IntKind.u64.wrap (-(m : Int)) = 18446744073709551616 - (m : Int) := by simp [IntKind.wrap, IntKind.bits, IntKind.signed]; omega
  have hw2 : IntKind.u64.wrap (-(18446744073709551616 - (m : Int))) = (m : Int) := by simp [IntKind.wrap, IntKind.bits, IntKind.signed]; omega
  go_enter Tryz.func82, Tryz.ntmps82
  go_wp2_with fail
  obtain ⟨W, hW, b0, hbW, hsz⟩ := boxes1 w #[.bool false, .slice none 0 0] 61
  rw [hW]
  refine (fromuint_v m hm2 _).mono ?_
  rintro e w1 ⟨B, k, d, rfl, hN, hb⟩
  have q0 := b0.below hb
  clear hW
  go_wp2_with fail
  refine (signed_v _ hN (z := (-(m : Int))) rfl).mono ?_
  rintro e w2 ⟨t, rfl, hI, hb2⟩
  have p0 := q0.below hb2
  have r0 := p0.cell 0 _ rfl
  have r1 := p0.cell 1 _ rfl
  have f0 := p0.frozen 0
  have f1 := p0.frozen 1
  have hbT := hbW.trans ((hb.trans (hb2.mono hb.size)).mono hbW.size)
  have hI2 := hI.stored p0 (notInt_box _ _ _ _) (.bool t) (.slice B k d)
  have hbf := below_stored (g := w.heap.size) hbT (by omega) (.bool t) (.slice B k d)
  have hbx := p0.stored (.bool t) (.slice B k d)
  clear b0 q0
  go_wp2_with fail
  refine bodyPost_ret (ret_int rfl rfl hbx) rfl ?_
  exact ⟨t, B, k, d, rfl, hI2, hbf⟩
theorem ifromint_v (z : Int) (h0 : -9223372036854775808 ≤ z) (h1 : z ≤ 9223372036854775807) (w : World) :
    Calls Tryz.prog 82 #[.int .i64 z] w fun e w' => ∃ t B k d, e = .returned (.agg #[.bool t, .slice B k d]) ∧ NI w' t (.slice B k d) z 2 ∧ Below w.heap.size w w' := by
  rcases Int.lt_trichotomy z 0 with h | h | h
  · obtain ⟨m, rfl⟩ : ∃ m : Nat, z = -(m : Int) := ⟨z.natAbs, by omega⟩
    exact ifromint_neg m (by omega) (by omega) w
  · obtain ⟨m, rfl⟩ : ∃ m : Nat, z = (m : Int) := ⟨z.natAbs, by omega⟩
    exact ifromint_pos m (by omega) w
  · obtain ⟨m, rfl⟩ : ∃ m : Nat, z = (m : Int) := ⟨z.natAbs, by omega⟩
    exact ifromint_pos m (by omega) w
end Go.Proofs.YthmmnmajkeoaaabGreatDoor
