/-
  The reference's texts of rational numbers.
-/
import Derived.Test.YtancgkmkbgkncaaGreatDoorRatP
import Derived.Test.YtancgkmkbgkncaaGreatDoorRatR
namespace Go.Proofs.YtancgkmkbgkncaaGreatDoor
open Go.RowKit

section
variable {bs : List Nat} {A0 A1 A2 A3 D0 D1 D2 D3 : Option Addr} {n0 n1 n2 n3 c0 c1 c2 c3 m0 m1 m2 m3 e0 e1 e2 e3 : Nat} {s0 s1 s2 s3 : Bool} {z z' z0 z1 z2 : Int} {q q' q0 q1 q2 : Rat} {L L0 L1 L2 x x0 x1 y : Nat} {k : Int} {w : World}
set_option maxRecDepth 100000 in
set_option maxHeartbeats 800000 in
theorem nformatq_v (h : PQ w s0 (.slice A0 n0 c0) (.slice D0 m0 e0) q L) (hL : L ≤ 90) :
    Calls Tryz.prog 28 #[.agg #[.bool s0, .slice A0 n0 c0, .slice D0 m0 e0]] w fun e w' => e = .returned (.string (strB (ratB q))) ∧ Below w.heap.size w w' := by
  have hq1 := h.1.1.2
  have hsg := h.1.2
  have HH := Lib.hid (fun W (hb : Below w.heap.size w W) => text_v (h.below hb).1.1 (by omega))
  have h45 : (⟨#[45]⟩ : ByteArray).size = 1 := rfl
  have h47 : (⟨#[47]⟩ : ByteArray).size = 1 := rfl
  have hza := strB_size (decT q.num.natAbs)
  have hla := decT_len hq1
  have hit : itoaB q.num = (if q.num < 0 then [45] else []) ++ decT q.num.natAbs := rfl
  by_cases hq : q.den = 1
  · have hm := nv_zero (h.den0 hq)
    subst hm
    have hr : ratB q = itoaB q.num := if_pos hq
    rcases Decidable.em (q.num < 0) with hz | hz
    · have HX : Hid (strB (ratB q) = ⟨#[45]⟩ ++ strB (decT q.num.natAbs)) := Lib.hid (by rw [hr, hit, if_pos hz]; rw [show (⟨#[45]⟩ : ByteArray) = strB [45] from rfl, strB_append])
      have hs : s0 = true := by rw [hsg]; exact decide_eq_true hz
      subst hs
      clear hr hit hsg hz hq hq1
      clear h
      generalize hsa : strB (decT q.num.natAbs) = sa at *
      clear hsa
      rw [← hza] at hla
      clear hza
      go_enter Tryz.func28, Tryz.ntmps28
      go_wp2_with fail
      obtain ⟨W0, hW, b0, hbW, hszW0⟩ := boxes1 w #[.bool true, .slice A0 n0 c0, .slice D0 0 e0] 45
      rw [hW]
      clear hW
      have H0 := hbW
      clear hbW
      refine (HH.out _ H0).mono ?_
      rintro e w1 ⟨rfl, hb⟩
      replace b0 := b0.below hb
      replace H0 := H0.trans (hb.mono H0.size)
      clear hb
      have cb00 := b0.cell 0 _ rfl
      have cb01 := b0.cell 1 _ rfl
      have cb02 := b0.cell 2 _ rfl
      go_wp2_with fail
      go_returns
      exact ⟨by rw [HX.out]; rfl, H0⟩
    · have HX : Hid (strB (ratB q) = strB (decT q.num.natAbs)) := Lib.hid (by rw [hr, hit, if_neg hz]; rfl)
      have hs : s0 = false := by rw [hsg]; exact decide_eq_false hz
      subst hs
      clear hr hit hsg hz hq hq1
      clear h
      generalize hsa : strB (decT q.num.natAbs) = sa at *
      clear hsa
      rw [← hza] at hla
      clear hza
      go_enter Tryz.func28, Tryz.ntmps28
      go_wp2_with fail
      obtain ⟨W0, hW, b0, hbW, hszW0⟩ := boxes1 w #[.bool false, .slice A0 n0 c0, .slice D0 0 e0] 45
      rw [hW]
      clear hW
      have H0 := hbW
      clear hbW
      refine (HH.out _ H0).mono ?_
      rintro e w1 ⟨rfl, hb⟩
      replace b0 := b0.below hb
      replace H0 := H0.trans (hb.mono H0.size)
      clear hb
      have cb00 := b0.cell 0 _ rfl
      have cb01 := b0.cell 1 _ rfl
      have cb02 := b0.cell 2 _ rfl
      go_wp2_with fail
      go_returns
      exact ⟨by rw [HX.out]; rfl, H0⟩
  · have HD := Lib.hid (fun W (hb : Below w.heap.size w W) => text_v ((h.den1 hq).below hb) (by omega))
    have hm := nv_pos (h.den1 hq) (Nat.pos_of_ne_zero q.den_nz)
    have hzb := strB_size (decT q.den)
    have hlb := decT_len (h.den1 hq).2
    have hr : ratB q = itoaB q.num ++ 47 :: decT q.den := if_neg hq
    rcases Decidable.em (q.num < 0) with hz | hz
    · have HX : Hid (strB (ratB q) = (⟨#[45]⟩ ++ strB (decT q.num.natAbs)) ++ (⟨#[47]⟩ ++ strB (decT q.den))) := Lib.hid (by rw [hr, hit, if_pos hz]; rw [show (⟨#[45]⟩ : ByteArray) = strB [45] from rfl, show (⟨#[47]⟩ : ByteArray) = strB [47] from rfl, strB_append, strB_append, strB_append]; rfl)
      have hs : s0 = true := by rw [hsg]; exact decide_eq_true hz
      subst hs
      clear hr hit hsg hz hq hq1
      clear h
      generalize hsb : strB (decT q.den) = sb at *
      clear hsb
      generalize hsa : strB (decT q.num.natAbs) = sa at *
      clear hsa
      rw [← hza] at hla
      clear hza
      rw [← hzb] at hlb
      clear hzb
      go_enter Tryz.func28, Tryz.ntmps28
      go_wp2_with fail
      obtain ⟨W0, hW, b0, hbW, hszW0⟩ := boxes1 w #[.bool true, .slice A0 n0 c0, .slice D0 m0 e0] 45
      rw [hW]
      clear hW
      have H0 := hbW
      clear hbW
      refine (HH.out _ H0).mono ?_
      rintro e w1 ⟨rfl, hb⟩
      replace b0 := b0.below hb
      replace H0 := H0.trans (hb.mono H0.size)
      clear hb
      have cb00 := b0.cell 0 _ rfl
      have cb01 := b0.cell 1 _ rfl
      have cb02 := b0.cell 2 _ rfl
      go_wp2_with fail
      clear cb00 cb01 cb02
      refine (HD.out _ H0).mono ?_
      rintro e w2 ⟨rfl, hb⟩
      replace b0 := b0.below hb
      replace H0 := H0.trans (hb.mono H0.size)
      clear hb
      go_wp2_with fail
      go_returns
      exact ⟨by rw [HX.out]; rfl, H0⟩
    · have HX : Hid (strB (ratB q) = strB (decT q.num.natAbs) ++ (⟨#[47]⟩ ++ strB (decT q.den))) := Lib.hid (by rw [hr, hit, if_neg hz]; rw [show (⟨#[47]⟩ : ByteArray) = strB [47] from rfl, strB_append, strB_append]; rfl)
      have hs : s0 = false := by rw [hsg]; exact decide_eq_false hz
      subst hs
      clear hr hit hsg hz hq hq1
      clear h
      generalize hsb : strB (decT q.den) = sb at *
      clear hsb
      generalize hsa : strB (decT q.num.natAbs) = sa at *
      clear hsa
      rw [← hza] at hla
      clear hza
      rw [← hzb] at hlb
      clear hzb
      go_enter Tryz.func28, Tryz.ntmps28
      go_wp2_with fail
      obtain ⟨W0, hW, b0, hbW, hszW0⟩ := boxes1 w #[.bool false, .slice A0 n0 c0, .slice D0 m0 e0] 45
      rw [hW]
      clear hW
      have H0 := hbW
      clear hbW
      refine (HH.out _ H0).mono ?_
      rintro e w1 ⟨rfl, hb⟩
      replace b0 := b0.below hb
      replace H0 := H0.trans (hb.mono H0.size)
      clear hb
      have cb00 := b0.cell 0 _ rfl
      have cb01 := b0.cell 1 _ rfl
      have cb02 := b0.cell 2 _ rfl
      go_wp2_with fail
      clear cb00 cb01 cb02
      refine (HD.out _ H0).mono ?_
      rintro e w2 ⟨rfl, hb⟩
      replace b0 := b0.below hb
      replace H0 := H0.trans (hb.mono H0.size)
      clear hb
      go_wp2_with fail
      go_returns
      exact ⟨by rw [HX.out]; rfl, H0⟩
/-- Where the first slash of the bytes from k on stands. -/
def slashAt (bs : List Nat) (k : Nat) : Nat := k + (cutS (bs.drop k)).1.length
theorem slash_end (bs : List Nat) : slashAt bs bs.length = bs.length := by unfold slashAt; rw [List.drop_length]; rfl
theorem slash_zero (bs : List Nat) : slashAt bs 0 = (cutS bs).1.length := by unfold slashAt; rw [List.drop_zero, Nat.zero_add]
theorem slash_step {bs : List Nat} {k : Nat} (h : k < bs.length) : slashAt bs k = if bs.getD k 0 = 47 then k else slashAt bs (k + 1) := by
  unfold slashAt
  rw [List.drop_eq_getElem_cons h, cutS_cons, List.getD_eq_getElem?_getD, List.getElem?_eq_getElem h, Option.getD_some]
  split
  · rfl
  · simp only [List.length_cons]; omega
theorem cutS_first (bs : List Nat) : (strB bs).extract 0 (cutS bs).1.length = strB (cutS bs).1 := by
  cases hf : (cutS bs).2.2
  · obtain ⟨h1, _, _⟩ := cutS_miss hf
    rw [h1]; have := strB_first bs []; rwa [List.append_nil] at this
  · obtain ⟨h1, _⟩ := cutS_hit hf
    have := strB_first (cutS bs).1 (47 :: (cutS bs).2.1)
    rwa [← h1] at this
theorem cutS_sum {bs : List Nat} (hf : (cutS bs).2.2 = true) : bs.length = (cutS bs).1.length + 1 + (cutS bs).2.1.length := by
  have := congrArg List.length (cutS_hit hf).1
  rw [List.length_append, List.length_cons] at this
  omega
theorem cutS_last {bs : List Nat} (hf : (cutS bs).2.2 = true) : (strB bs).extract ((cutS bs).1.length + 1) bs.length = strB (cutS bs).2.1 := by
  obtain ⟨h1, _⟩ := cutS_hit hf
  have := strB_last (cutS bs).1 (cutS bs).2.1
  rw [← h1] at this
  rw [cutS_sum hf]; exact this
theorem cutS_lens {bs : List Nat} : ((cutS bs).2.2 = false → (cutS bs).1.length = bs.length) ∧ ((cutS bs).2.2 = true → (cutS bs).1.length < bs.length) := by
  constructor
  · intro h; rw [(cutS_miss h).1]
  · intro h
    have := cutS_sum h
    omega
set_option maxRecDepth 100000 in
set_option maxHeartbeats 800000 in
theorem readq_yes1 (hb : OkB bs) (hl : bs.length ≤ 200) (hf : (cutS bs).2.2 = true) (H : ∀ W : World, Below w.heap.size w W → Calls Tryz.prog 31 #[.string (strB (cutS bs).1)] W fun e w' => ∃ t B k d, e = .returned (.tuple #[.agg #[.bool t, .slice B k d], .int .i64 0]) ∧ NI w' t (.slice B k d) z L ∧ Below W.heap.size W w') (H' : ∀ W : World, Below w.heap.size w W → Calls Tryz.prog 33 #[.string (strB (cutS bs).2.1)] W fun e w' => ∃ A n c, e = .returned (.tuple #[.slice A n c, .int .i64 0]) ∧ NV w' (.slice A n c) x L ∧ Below W.heap.size W w') (hx : x ≠ 0) (hL : L ≤ 900) :
    Calls Tryz.prog 13 #[.string (strB bs)] w fun e w' => ∃ s4 A4 n4 c4 D4 m4 e4, e = .returned (.tuple #[.agg #[.bool s4, .slice A4 n4 c4, .slice D4 m4 e4], .int .i64 0]) ∧ PQ w' s4 (.slice A4 n4 c4) (.slice D4 m4 e4) (mkRat z x) L ∧ Below w.heap.size w w' := by
  have HI := Lib.hid H
  clear H
  have HD := Lib.hid H'
  clear H'
  have HP := Lib.hid (Nat.pos_of_ne_zero hx)
  have HN := Lib.hid hx
  clear hx
  have hsz := strB_size bs
  have hat := fun k (h : k < (strB bs).size) => strB_at hb h
  have HAT := Lib.hid hat
  have HS0 : Hid (slashAt bs 0 = (cutS bs).1.length) := Lib.hid (slash_zero bs)
  have hx1 := cutS_first bs
  have hx2 := cutS_last hf
  have hlen := cutS_lens.2 hf
  clear hat hb
  generalize hsb : strB bs = s at *
  generalize hn : (cutS bs).1.length = n at *
  generalize strB (cutS bs).1 = ts at *
  generalize strB (cutS bs).2.1 = tr at *
  clear hsb hn hf
  have i1 : (0 : Int) ≤ (n : Int) := by omega
  have i2 : (n : Int) ≤ (bs.length : Int) := by omega
  have i3 : (n : Int) + 1 ≤ (bs.length : Int) := by omega
  have i4 : (0 : Int) ≤ (n : Int) + 1 := by omega
  have i5 : IntKind.i64.wrap ((n : Int) + 1) = (n : Int) + 1 := by simp [IntKind.wrap, IntKind.bits, IntKind.signed]; omega
  have i6 : decide ((n : Int) < (bs.length : Int)) = true := decide_eq_true (by omega)
  have i7 : n < bs.length := hlen
  have HLEN := Lib.hid hlen
  clear hlen
  go_enter Tryz.func13, Tryz.ntmps13
  go_wp2_with fail
  obtain ⟨W0, hW, b0, hbW, hszW0⟩ := boxes1 w #[.bool false, .slice none 0 0, .slice none 0 0] 45
  rw [hW]
  clear hW
  have H0 := hbW
  clear hbW
  go_loop [4, 5] (fun a i => ∃ k : Nat, i = .int .i64 ((k : Int) - 1) ∧ a = .int .i64 ((slashAt bs k : Nat) : Int) ∧ k ≤ bs.length) (fun a i => (intOf i + 1).toNat)
  case atStart => exact ⟨bs.length, rfl, by rw [slash_end], Nat.le_refl _⟩
  case round =>
    obtain ⟨k, rfl, rfl, hk⟩ := hrel
    rcases k with _ | j
    · have h0 : ((0 : Nat) : Int) - 1 = -1 := rfl
      rw [HS0.out, h0]
      clear h0 hk
      go_wp2_with fail
      refine (HI.out _ H0).mono ?_
      rintro e w1 ⟨s1, A1, n1, c1, rfl, fi, hb⟩
      replace b0 := b0.below hb
      replace H0 := H0.trans (hb.mono H0.size)
      clear hb
      have lb0_2 := b0.lt
      obtain ⟨W2, hW, b1, hbW, hszW2⟩ := boxes1 w1 #[.bool s1, .slice A1 n1 c1] 43
      skip
      skip
      replace fi := fi.below hbW
      replace b0 := b0.below hbW
      replace H0 := H0.trans (hbW.mono H0.size)
      clear hbW
      go_wp2_with fail
      clear hW
      refine (none_v _).mono ?_
      rintro e w3 ⟨A2, n2, c2, rfl, f2, hb⟩
      replace fi := fi.below hb
      replace b0 := b0.below hb
      replace b1 := b1.below hb
      replace H0 := H0.trans (hb.mono H0.size)
      clear hb
      go_wp2_with fail
      clear f2
      refine (HD.out _ H0).mono ?_
      rintro e w4 ⟨A3, n3, c3, rfl, f3, hb⟩
      replace fi := fi.below hb
      replace b0 := b0.below hb
      replace b1 := b1.below hb
      replace H0 := H0.trans (hb.mono H0.size)
      clear hb
      have hm := nv_pos f3 HP.out
      have hm1 : ((n3 : Int) == 0) = false := by rw [beq_eq_false_iff_ne]; omega
      have cb10 := b1.cell 0 _ rfl
      have cb11 := b1.cell 1 _ rfl
      go_wp2_with fail
      clear cb10 cb11
      refine (nfrac_v fi f3 HN.out (by omega)).mono ?_
      rintro e w5 ⟨s4, A4, n4, c4, D4, m4, e4, rfl, fq, hb⟩
      replace fi := fi.below hb
      replace f3 := f3.below hb
      replace b0 := b0.below hb
      replace b1 := b1.below hb
      replace H0 := H0.trans (hb.mono H0.size)
      clear hb
      clear fi
      clear f3
      have cb00 := b0.cell 0 _ rfl
      have yb00 := b0.frozen 0
      have cb01 := b0.cell 1 _ rfl
      have yb01 := b0.frozen 1
      have cb02 := b0.cell 2 _ rfl
      have yb02 := b0.frozen 2
      go_wp2_with fail
      clear cb00 yb00 cb01 yb01 cb02 yb02
      have hg := only_store3 w5 (w.heap.size) (.bool s4) (.slice A4 n4 c4) (.slice D4 m4 e4)
      have hB := b0.stored3 (.bool s4) (.slice A4 n4 c4) (.slice D4 m4 e4)
      generalize hX : (((w5.setCell ⟨w.heap.size, 0, none⟩ (.bool s4)).setCell ⟨w.heap.size, 1, none⟩ (.slice A4 n4 c4)).setCell ⟨w.heap.size, 2, none⟩ (.slice D4 m4 e4)) = X6 at hg hB ⊢
      clear hX
      replace fq := fq.kept b0 (by simp [notInt]) hg
      replace b1 := b1.other hg (by omega)
      replace b0 := hB
      replace H0 := below_only H0 hg (by omega) H0.size
      clear hg hB
      refine bodyPost_ret (ret_numq_b rfl rfl b0) rfl ?_
      exact ⟨s4, A4, n4, c4, D4, m4, e4, rfl, fq, H0⟩
    · have hj : ((j + 1 : Nat) : Int) - 1 = (j : Int) := by omega
      rw [hj]
      have hlt : j < bs.length := by omega
      have hlt2 : (j : Int) < (bs.length : Int) := by omega
      obtain ⟨d, hdd⟩ : ∃ d, bs.getD j 0 = d := ⟨_, rfl⟩
      have hix : ∀ h : j < s.size, (s[j]'h).toNat = d := fun h => by rw [HAT.out j h]; exact hdd
      have hst := slash_step hlt
      rw [hdd] at hst
      clear hdd hj
      rcases Decidable.em (d = 47) with h47 | h47
      · subst h47
        rw [if_pos rfl] at hst
        have HST := Lib.hid hst
        clear hst
        go_wp2_with fail
        go_round
        case rel => exact ⟨j, rfl, by rw [HST.out], by omega⟩
        case measure => simp [intOf] <;> omega
      · rw [if_neg h47] at hst
        have HST := Lib.hid hst
        clear hst
        have hne : ((d : Int) == 47) = false := by rw [beq_eq_false_iff_ne]; omega
        go_wp2_with fail
        go_round
        case rel => exact ⟨j, rfl, by rw [HST.out], by omega⟩
        case measure => simp [intOf] <;> omega
set_option maxRecDepth 100000 in
set_option maxHeartbeats 800000 in
theorem readq_yes0 (hb : OkB bs) (hl : bs.length ≤ 200) (hf : (cutS bs).2.2 = false) (H : ∀ W : World, Below w.heap.size w W → Calls Tryz.prog 31 #[.string (strB (cutS bs).1)] W fun e w' => ∃ t B k d, e = .returned (.tuple #[.agg #[.bool t, .slice B k d], .int .i64 0]) ∧ NI w' t (.slice B k d) z L ∧ Below W.heap.size W w') (hL1 : 1 ≤ L) (hL : L ≤ 900) :
    Calls Tryz.prog 13 #[.string (strB bs)] w fun e w' => ∃ s4 A4 n4 c4 D4 m4 e4, e = .returned (.tuple #[.agg #[.bool s4, .slice A4 n4 c4, .slice D4 m4 e4], .int .i64 0]) ∧ PQ w' s4 (.slice A4 n4 c4) (.slice D4 m4 e4) (mkRat z 1) L ∧ Below w.heap.size w w' := by
  have HI := Lib.hid H
  clear H
  have HP : Hid (0 < 1) := Lib.hid (by omega)
  have HN : Hid ((1 : Nat) ≠ 0) := Lib.hid (by omega)
  have HL := Lib.hid hL1
  clear hL1
  have hsz := strB_size bs
  have hat := fun k (h : k < (strB bs).size) => strB_at hb h
  have HAT := Lib.hid hat
  have HS0 : Hid (slashAt bs 0 = (cutS bs).1.length) := Lib.hid (slash_zero bs)
  have hx1 := cutS_first bs
  have hlen := cutS_lens.1 hf
  clear hat hb
  generalize hsb : strB bs = s at *
  generalize hn : (cutS bs).1.length = n at *
  generalize strB (cutS bs).1 = ts at *
  clear hsb hn hf
  have i1 : (0 : Int) ≤ (n : Int) := by omega
  have i2 : (n : Int) ≤ (bs.length : Int) := by omega
  have i6 : decide ((n : Int) < (bs.length : Int)) = false := decide_eq_false (by omega)
  have i7 : ¬ n < bs.length := by omega
  have i8 : ¬ (n : Int) < (bs.length : Int) := by omega
  have HLEN := Lib.hid hlen
  clear hlen
  go_enter Tryz.func13, Tryz.ntmps13
  go_wp2_with fail
  obtain ⟨W0, hW, b0, hbW, hszW0⟩ := boxes1 w #[.bool false, .slice none 0 0, .slice none 0 0] 45
  rw [hW]
  clear hW
  have H0 := hbW
  clear hbW
  go_loop [4, 5] (fun a i => ∃ k : Nat, i = .int .i64 ((k : Int) - 1) ∧ a = .int .i64 ((slashAt bs k : Nat) : Int) ∧ k ≤ bs.length) (fun a i => (intOf i + 1).toNat)
  case atStart => exact ⟨bs.length, rfl, by rw [slash_end], Nat.le_refl _⟩
  case round =>
    obtain ⟨k, rfl, rfl, hk⟩ := hrel
    rcases k with _ | j
    · have h0 : ((0 : Nat) : Int) - 1 = -1 := rfl
      rw [HS0.out, h0]
      clear h0 hk
      go_wp2_with fail
      refine (HI.out _ H0).mono ?_
      rintro e w1 ⟨s1, A1, n1, c1, rfl, fi, hb⟩
      replace b0 := b0.below hb
      replace H0 := H0.trans (hb.mono H0.size)
      clear hb
      have lb0_2 := b0.lt
      obtain ⟨W2, hW, b1, hbW, hszW2⟩ := boxes1 w1 #[.bool s1, .slice A1 n1 c1] 43
      skip
      skip
      replace fi := fi.below hbW
      replace b0 := b0.below hbW
      replace H0 := H0.trans (hbW.mono H0.size)
      clear hbW
      go_wp2_with fail
      clear hW
      refine (none_v _).mono ?_
      rintro e w3 ⟨A2, n2, c2, rfl, f2, hb⟩
      replace fi := fi.below hb
      replace b0 := b0.below hb
      replace b1 := b1.below hb
      replace H0 := H0.trans (hb.mono H0.size)
      clear hb
      have hm := nv_pos f2 HP.out
      have hm1 : ((n2 : Int) == 0) = false := by rw [beq_eq_false_iff_ne]; omega
      have cb10 := b1.cell 0 _ rfl
      have cb11 := b1.cell 1 _ rfl
      go_wp2_with fail
      clear cb10 cb11
      refine (nfrac_v fi (NV.more f2 HL.out) HN.out (by omega)).mono ?_
      rintro e w4 ⟨s4, A4, n4, c4, D4, m4, e4, rfl, fq, hb⟩
      replace fi := fi.below hb
      replace f2 := f2.below hb
      replace b0 := b0.below hb
      replace b1 := b1.below hb
      replace H0 := H0.trans (hb.mono H0.size)
      clear hb
      clear fi
      clear f2
      have cb00 := b0.cell 0 _ rfl
      have yb00 := b0.frozen 0
      have cb01 := b0.cell 1 _ rfl
      have yb01 := b0.frozen 1
      have cb02 := b0.cell 2 _ rfl
      have yb02 := b0.frozen 2
      go_wp2_with fail
      clear cb00 yb00 cb01 yb01 cb02 yb02
      have hg := only_store3 w4 (w.heap.size) (.bool s4) (.slice A4 n4 c4) (.slice D4 m4 e4)
      have hB := b0.stored3 (.bool s4) (.slice A4 n4 c4) (.slice D4 m4 e4)
      generalize hX : (((w4.setCell ⟨w.heap.size, 0, none⟩ (.bool s4)).setCell ⟨w.heap.size, 1, none⟩ (.slice A4 n4 c4)).setCell ⟨w.heap.size, 2, none⟩ (.slice D4 m4 e4)) = X5 at hg hB ⊢
      clear hX
      replace fq := fq.kept b0 (by simp [notInt]) hg
      replace b1 := b1.other hg (by omega)
      replace b0 := hB
      replace H0 := below_only H0 hg (by omega) H0.size
      clear hg hB
      refine bodyPost_ret (ret_numq_b rfl rfl b0) rfl ?_
      exact ⟨s4, A4, n4, c4, D4, m4, e4, rfl, fq, H0⟩
    · have hj : ((j + 1 : Nat) : Int) - 1 = (j : Int) := by omega
      rw [hj]
      have hlt : j < bs.length := by omega
      have hlt2 : (j : Int) < (bs.length : Int) := by omega
      obtain ⟨d, hdd⟩ : ∃ d, bs.getD j 0 = d := ⟨_, rfl⟩
      have hix : ∀ h : j < s.size, (s[j]'h).toNat = d := fun h => by rw [HAT.out j h]; exact hdd
      have hst := slash_step hlt
      rw [hdd] at hst
      clear hdd hj
      rcases Decidable.em (d = 47) with h47 | h47
      · subst h47
        rw [if_pos rfl] at hst
        have HST := Lib.hid hst
        clear hst
        go_wp2_with fail
        go_round
        case rel => exact ⟨j, rfl, by rw [HST.out], by omega⟩
        case measure => simp [intOf] <;> omega
      · rw [if_neg h47] at hst
        have HST := Lib.hid hst
        clear hst
        have hne : ((d : Int) == 47) = false := by rw [beq_eq_false_iff_ne]; omega
        go_wp2_with fail
        go_round
        case rel => exact ⟨j, rfl, by rw [HST.out], by omega⟩
        case measure => simp [intOf] <;> omega
set_option maxRecDepth 100000 in
set_option maxHeartbeats 800000 in
theorem readq_zero1 (hb : OkB bs) (hl : bs.length ≤ 200) (hf : (cutS bs).2.2 = true) (H : ∀ W : World, Below w.heap.size w W → Calls Tryz.prog 31 #[.string (strB (cutS bs).1)] W fun e w' => ∃ t B k d, e = .returned (.tuple #[.agg #[.bool t, .slice B k d], .int .i64 0]) ∧ NI w' t (.slice B k d) z L ∧ Below W.heap.size W w') (H' : ∀ W : World, Below w.heap.size w W → Calls Tryz.prog 33 #[.string (strB (cutS bs).2.1)] W fun e w' => ∃ A n c, e = .returned (.tuple #[.slice A n c, .int .i64 0]) ∧ NV w' (.slice A n c) 0 L ∧ Below W.heap.size W w') :
    Calls Tryz.prog 13 #[.string (strB bs)] w fun e w' => e = .returned (.tuple #[.agg #[.bool false, .slice none 0 0, .slice none 0 0], .int .i64 3]) ∧ Below w.heap.size w w' := by
  have HI := Lib.hid H
  clear H
  have HD := Lib.hid H'
  clear H'
  have hsz := strB_size bs
  have hat := fun k (h : k < (strB bs).size) => strB_at hb h
  have HAT := Lib.hid hat
  have HS0 : Hid (slashAt bs 0 = (cutS bs).1.length) := Lib.hid (slash_zero bs)
  have hx1 := cutS_first bs
  have hx2 := cutS_last hf
  have hlen := cutS_lens.2 hf
  clear hat hb
  generalize hsb : strB bs = s at *
  generalize hn : (cutS bs).1.length = n at *
  generalize strB (cutS bs).1 = ts at *
  generalize strB (cutS bs).2.1 = tr at *
  clear hsb hn hf
  have i1 : (0 : Int) ≤ (n : Int) := by omega
  have i2 : (n : Int) ≤ (bs.length : Int) := by omega
  have i3 : (n : Int) + 1 ≤ (bs.length : Int) := by omega
  have i4 : (0 : Int) ≤ (n : Int) + 1 := by omega
  have i5 : IntKind.i64.wrap ((n : Int) + 1) = (n : Int) + 1 := by simp [IntKind.wrap, IntKind.bits, IntKind.signed]; omega
  have i6 : decide ((n : Int) < (bs.length : Int)) = true := decide_eq_true (by omega)
  have i7 : n < bs.length := hlen
  have HLEN := Lib.hid hlen
  clear hlen
  go_enter Tryz.func13, Tryz.ntmps13
  go_wp2_with fail
  obtain ⟨W0, hW, b0, hbW, hszW0⟩ := boxes1 w #[.bool false, .slice none 0 0, .slice none 0 0] 45
  rw [hW]
  clear hW
  have H0 := hbW
  clear hbW
  go_loop [4, 5] (fun a i => ∃ k : Nat, i = .int .i64 ((k : Int) - 1) ∧ a = .int .i64 ((slashAt bs k : Nat) : Int) ∧ k ≤ bs.length) (fun a i => (intOf i + 1).toNat)
  case atStart => exact ⟨bs.length, rfl, by rw [slash_end], Nat.le_refl _⟩
  case round =>
    obtain ⟨k, rfl, rfl, hk⟩ := hrel
    rcases k with _ | j
    · have h0 : ((0 : Nat) : Int) - 1 = -1 := rfl
      rw [HS0.out, h0]
      clear h0 hk
      go_wp2_with fail
      refine (HI.out _ H0).mono ?_
      rintro e w1 ⟨s1, A1, n1, c1, rfl, fi, hb⟩
      replace b0 := b0.below hb
      replace H0 := H0.trans (hb.mono H0.size)
      clear hb
      have lb0_2 := b0.lt
      obtain ⟨W2, hW, b1, hbW, hszW2⟩ := boxes1 w1 #[.bool s1, .slice A1 n1 c1] 43
      skip
      skip
      replace fi := fi.below hbW
      replace b0 := b0.below hbW
      replace H0 := H0.trans (hbW.mono H0.size)
      clear hbW
      go_wp2_with fail
      clear hW
      refine (none_v _).mono ?_
      rintro e w3 ⟨A2, n2, c2, rfl, f2, hb⟩
      replace fi := fi.below hb
      replace b0 := b0.below hb
      replace b1 := b1.below hb
      replace H0 := H0.trans (hb.mono H0.size)
      clear hb
      go_wp2_with fail
      clear f2
      refine (HD.out _ H0).mono ?_
      rintro e w4 ⟨A3, n3, c3, rfl, f3, hb⟩
      replace fi := fi.below hb
      replace b0 := b0.below hb
      replace b1 := b1.below hb
      replace H0 := H0.trans (hb.mono H0.size)
      clear hb
      have hm := nv_zero f3
      subst hm
      clear fi
      clear f3
      have cb00 := b0.cell 0 _ rfl
      have yb00 := b0.frozen 0
      have cb01 := b0.cell 1 _ rfl
      have yb01 := b0.frozen 1
      have cb02 := b0.cell 2 _ rfl
      have yb02 := b0.frozen 2
      go_wp2_with fail
      clear cb00 yb00 cb01 yb01 cb02 yb02
      have hg := only_store3 w4 (w.heap.size) (.bool false) (.slice none 0 0) (.slice none 0 0)
      have hB := b0.stored3 (.bool false) (.slice none 0 0) (.slice none 0 0)
      generalize hX : (((w4.setCell ⟨w.heap.size, 0, none⟩ (.bool false)).setCell ⟨w.heap.size, 1, none⟩ (.slice none 0 0)).setCell ⟨w.heap.size, 2, none⟩ (.slice none 0 0)) = X5 at hg hB ⊢
      clear hX
      replace b1 := b1.other hg (by omega)
      replace b0 := hB
      replace H0 := below_only H0 hg (by omega) H0.size
      clear hg hB
      refine bodyPost_ret (ret_numq_b rfl rfl b0) rfl ?_
      exact ⟨rfl, H0⟩
    · have hj : ((j + 1 : Nat) : Int) - 1 = (j : Int) := by omega
      rw [hj]
      have hlt : j < bs.length := by omega
      have hlt2 : (j : Int) < (bs.length : Int) := by omega
      obtain ⟨d, hdd⟩ : ∃ d, bs.getD j 0 = d := ⟨_, rfl⟩
      have hix : ∀ h : j < s.size, (s[j]'h).toNat = d := fun h => by rw [HAT.out j h]; exact hdd
      have hst := slash_step hlt
      rw [hdd] at hst
      clear hdd hj
      rcases Decidable.em (d = 47) with h47 | h47
      · subst h47
        rw [if_pos rfl] at hst
        have HST := Lib.hid hst
        clear hst
        go_wp2_with fail
        go_round
        case rel => exact ⟨j, rfl, by rw [HST.out], by omega⟩
        case measure => simp [intOf] <;> omega
      · rw [if_neg h47] at hst
        have HST := Lib.hid hst
        clear hst
        have hne : ((d : Int) == 47) = false := by rw [beq_eq_false_iff_ne]; omega
        go_wp2_with fail
        go_round
        case rel => exact ⟨j, rfl, by rw [HST.out], by omega⟩
        case measure => simp [intOf] <;> omega
set_option maxRecDepth 100000 in
set_option maxHeartbeats 800000 in
theorem readq_num1 {kf : Int} (hb : OkB bs) (hl : bs.length ≤ 200) (hf : (cutS bs).2.2 = true) (H : ∀ W : World, Below w.heap.size w W → Calls Tryz.prog 31 #[.string (strB (cutS bs).1)] W fun e w' => ∃ t B k d, e = .returned (.tuple #[.agg #[.bool t, .slice B k d], .int .i64 1]) ∧ NI w' t (.slice B k d) z L ∧ Below W.heap.size W w') (H' : ∀ W : World, Below w.heap.size w W → Calls Tryz.prog 33 #[.string (strB (cutS bs).2.1)] W fun e w' => ∃ A n c, e = .returned (.tuple #[.slice A n c, .int .i64 kf]) ∧ NV w' (.slice A n c) x L ∧ Below W.heap.size W w') :
    Calls Tryz.prog 13 #[.string (strB bs)] w fun e w' => e = .returned (.tuple #[.agg #[.bool false, .slice none 0 0, .slice none 0 0], .int .i64 1]) ∧ Below w.heap.size w w' := by
  have HI := Lib.hid H
  clear H
  have HD := Lib.hid H'
  clear H'
  have hsz := strB_size bs
  have hat := fun k (h : k < (strB bs).size) => strB_at hb h
  have HAT := Lib.hid hat
  have HS0 : Hid (slashAt bs 0 = (cutS bs).1.length) := Lib.hid (slash_zero bs)
  have hx1 := cutS_first bs
  have hx2 := cutS_last hf
  have hlen := cutS_lens.2 hf
  clear hat hb
  generalize hsb : strB bs = s at *
  generalize hn : (cutS bs).1.length = n at *
  generalize strB (cutS bs).1 = ts at *
  generalize strB (cutS bs).2.1 = tr at *
  clear hsb hn hf
  have i1 : (0 : Int) ≤ (n : Int) := by omega
  have i2 : (n : Int) ≤ (bs.length : Int) := by omega
  have i3 : (n : Int) + 1 ≤ (bs.length : Int) := by omega
  have i4 : (0 : Int) ≤ (n : Int) + 1 := by omega
  have i5 : IntKind.i64.wrap ((n : Int) + 1) = (n : Int) + 1 := by simp [IntKind.wrap, IntKind.bits, IntKind.signed]; omega
  have i6 : decide ((n : Int) < (bs.length : Int)) = true := decide_eq_true (by omega)
  have i7 : n < bs.length := hlen
  have HLEN := Lib.hid hlen
  clear hlen
  go_enter Tryz.func13, Tryz.ntmps13
  go_wp2_with fail
  obtain ⟨W0, hW, b0, hbW, hszW0⟩ := boxes1 w #[.bool false, .slice none 0 0, .slice none 0 0] 45
  rw [hW]
  clear hW
  have H0 := hbW
  clear hbW
  go_loop [4, 5] (fun a i => ∃ k : Nat, i = .int .i64 ((k : Int) - 1) ∧ a = .int .i64 ((slashAt bs k : Nat) : Int) ∧ k ≤ bs.length) (fun a i => (intOf i + 1).toNat)
  case atStart => exact ⟨bs.length, rfl, by rw [slash_end], Nat.le_refl _⟩
  case round =>
    obtain ⟨k, rfl, rfl, hk⟩ := hrel
    rcases k with _ | j
    · have h0 : ((0 : Nat) : Int) - 1 = -1 := rfl
      rw [HS0.out, h0]
      clear h0 hk
      go_wp2_with fail
      refine (HI.out _ H0).mono ?_
      rintro e w1 ⟨s1, A1, n1, c1, rfl, fi, hb⟩
      replace b0 := b0.below hb
      replace H0 := H0.trans (hb.mono H0.size)
      clear hb
      have lb0_2 := b0.lt
      obtain ⟨W2, hW, b1, hbW, hszW2⟩ := boxes1 w1 #[.bool s1, .slice A1 n1 c1] 43
      skip
      skip
      replace fi := fi.below hbW
      replace b0 := b0.below hbW
      replace H0 := H0.trans (hbW.mono H0.size)
      clear hbW
      go_wp2_with fail
      clear hW
      refine (none_v _).mono ?_
      rintro e w3 ⟨A2, n2, c2, rfl, f2, hb⟩
      replace fi := fi.below hb
      replace b0 := b0.below hb
      replace b1 := b1.below hb
      replace H0 := H0.trans (hb.mono H0.size)
      clear hb
      go_wp2_with fail
      clear f2
      refine (HD.out _ H0).mono ?_
      rintro e w4 ⟨A3, n3, c3, rfl, f3, hb⟩
      replace fi := fi.below hb
      replace b0 := b0.below hb
      replace b1 := b1.below hb
      replace H0 := H0.trans (hb.mono H0.size)
      clear hb
      have cb00 := b0.cell 0 _ rfl
      have yb00 := b0.frozen 0
      have cb01 := b0.cell 1 _ rfl
      have yb01 := b0.frozen 1
      have cb02 := b0.cell 2 _ rfl
      have yb02 := b0.frozen 2
      go_wp2_with fail
      clear cb00 yb00 cb01 yb01 cb02 yb02
      have hg := only_store3 w4 (w.heap.size) (.bool false) (.slice none 0 0) (.slice none 0 0)
      have hB := b0.stored3 (.bool false) (.slice none 0 0) (.slice none 0 0)
      generalize hX : (((w4.setCell ⟨w.heap.size, 0, none⟩ (.bool false)).setCell ⟨w.heap.size, 1, none⟩ (.slice none 0 0)).setCell ⟨w.heap.size, 2, none⟩ (.slice none 0 0)) = X5 at hg hB ⊢
      clear hX
      replace fi := fi.kept b0 (by simp [notInt]) hg
      replace f3 := f3.kept b0 (by simp [notInt]) hg
      replace b1 := b1.other hg (by omega)
      replace b0 := hB
      replace H0 := below_only H0 hg (by omega) H0.size
      clear hg hB
      refine bodyPost_ret (ret_numq_b rfl rfl b0) rfl ?_
      exact ⟨rfl, H0⟩
    · have hj : ((j + 1 : Nat) : Int) - 1 = (j : Int) := by omega
      rw [hj]
      have hlt : j < bs.length := by omega
      have hlt2 : (j : Int) < (bs.length : Int) := by omega
      obtain ⟨d, hdd⟩ : ∃ d, bs.getD j 0 = d := ⟨_, rfl⟩
      have hix : ∀ h : j < s.size, (s[j]'h).toNat = d := fun h => by rw [HAT.out j h]; exact hdd
      have hst := slash_step hlt
      rw [hdd] at hst
      clear hdd hj
      rcases Decidable.em (d = 47) with h47 | h47
      · subst h47
        rw [if_pos rfl] at hst
        have HST := Lib.hid hst
        clear hst
        go_wp2_with fail
        go_round
        case rel => exact ⟨j, rfl, by rw [HST.out], by omega⟩
        case measure => simp [intOf] <;> omega
      · rw [if_neg h47] at hst
        have HST := Lib.hid hst
        clear hst
        have hne : ((d : Int) == 47) = false := by rw [beq_eq_false_iff_ne]; omega
        go_wp2_with fail
        go_round
        case rel => exact ⟨j, rfl, by rw [HST.out], by omega⟩
        case measure => simp [intOf] <;> omega
set_option maxRecDepth 100000 in
set_option maxHeartbeats 800000 in
theorem readq_num0 (hb : OkB bs) (hl : bs.length ≤ 200) (hf : (cutS bs).2.2 = false) (H : ∀ W : World, Below w.heap.size w W → Calls Tryz.prog 31 #[.string (strB (cutS bs).1)] W fun e w' => ∃ t B k d, e = .returned (.tuple #[.agg #[.bool t, .slice B k d], .int .i64 1]) ∧ NI w' t (.slice B k d) z L ∧ Below W.heap.size W w') :
    Calls Tryz.prog 13 #[.string (strB bs)] w fun e w' => e = .returned (.tuple #[.agg #[.bool false, .slice none 0 0, .slice none 0 0], .int .i64 1]) ∧ Below w.heap.size w w' := by
  have HI := Lib.hid H
  clear H
  have hsz := strB_size bs
  have hat := fun k (h : k < (strB bs).size) => strB_at hb h
  have HAT := Lib.hid hat
  have HS0 : Hid (slashAt bs 0 = (cutS bs).1.length) := Lib.hid (slash_zero bs)
  have hx1 := cutS_first bs
  have hlen := cutS_lens.1 hf
  clear hat hb
  generalize hsb : strB bs = s at *
  generalize hn : (cutS bs).1.length = n at *
  generalize strB (cutS bs).1 = ts at *
  clear hsb hn hf
  have i1 : (0 : Int) ≤ (n : Int) := by omega
  have i2 : (n : Int) ≤ (bs.length : Int) := by omega
  have i6 : decide ((n : Int) < (bs.length : Int)) = false := decide_eq_false (by omega)
  have i7 : ¬ n < bs.length := by omega
  have i8 : ¬ (n : Int) < (bs.length : Int) := by omega
  have HLEN := Lib.hid hlen
  clear hlen
  go_enter Tryz.func13, Tryz.ntmps13
  go_wp2_with fail
  obtain ⟨W0, hW, b0, hbW, hszW0⟩ := boxes1 w #[.bool false, .slice none 0 0, .slice none 0 0] 45
  rw [hW]
  clear hW
  have H0 := hbW
  clear hbW
  go_loop [4, 5] (fun a i => ∃ k : Nat, i = .int .i64 ((k : Int) - 1) ∧ a = .int .i64 ((slashAt bs k : Nat) : Int) ∧ k ≤ bs.length) (fun a i => (intOf i + 1).toNat)
  case atStart => exact ⟨bs.length, rfl, by rw [slash_end], Nat.le_refl _⟩
  case round =>
    obtain ⟨k, rfl, rfl, hk⟩ := hrel
    rcases k with _ | j
    · have h0 : ((0 : Nat) : Int) - 1 = -1 := rfl
      rw [HS0.out, h0]
      clear h0 hk
      go_wp2_with fail
      refine (HI.out _ H0).mono ?_
      rintro e w1 ⟨s1, A1, n1, c1, rfl, fi, hb⟩
      replace b0 := b0.below hb
      replace H0 := H0.trans (hb.mono H0.size)
      clear hb
      have lb0_2 := b0.lt
      obtain ⟨W2, hW, b1, hbW, hszW2⟩ := boxes1 w1 #[.bool s1, .slice A1 n1 c1] 43
      skip
      skip
      replace fi := fi.below hbW
      replace b0 := b0.below hbW
      replace H0 := H0.trans (hbW.mono H0.size)
      clear hbW
      go_wp2_with fail
      clear hW
      refine (none_v _).mono ?_
      rintro e w3 ⟨A2, n2, c2, rfl, f2, hb⟩
      replace fi := fi.below hb
      replace b0 := b0.below hb
      replace b1 := b1.below hb
      replace H0 := H0.trans (hb.mono H0.size)
      clear hb
      have cb00 := b0.cell 0 _ rfl
      have yb00 := b0.frozen 0
      have cb01 := b0.cell 1 _ rfl
      have yb01 := b0.frozen 1
      have cb02 := b0.cell 2 _ rfl
      have yb02 := b0.frozen 2
      go_wp2_with fail
      clear cb00 yb00 cb01 yb01 cb02 yb02
      have hg := only_store3 w3 (w.heap.size) (.bool false) (.slice none 0 0) (.slice none 0 0)
      have hB := b0.stored3 (.bool false) (.slice none 0 0) (.slice none 0 0)
      generalize hX : (((w3.setCell ⟨w.heap.size, 0, none⟩ (.bool false)).setCell ⟨w.heap.size, 1, none⟩ (.slice none 0 0)).setCell ⟨w.heap.size, 2, none⟩ (.slice none 0 0)) = X4 at hg hB ⊢
      clear hX
      replace fi := fi.kept b0 (by simp [notInt]) hg
      replace f2 := f2.kept b0 (by simp [notInt]) hg
      replace b1 := b1.other hg (by omega)
      replace b0 := hB
      replace H0 := below_only H0 hg (by omega) H0.size
      clear hg hB
      refine bodyPost_ret (ret_numq_b rfl rfl b0) rfl ?_
      exact ⟨rfl, H0⟩
    · have hj : ((j + 1 : Nat) : Int) - 1 = (j : Int) := by omega
      rw [hj]
      have hlt : j < bs.length := by omega
      have hlt2 : (j : Int) < (bs.length : Int) := by omega
      obtain ⟨d, hdd⟩ : ∃ d, bs.getD j 0 = d := ⟨_, rfl⟩
      have hix : ∀ h : j < s.size, (s[j]'h).toNat = d := fun h => by rw [HAT.out j h]; exact hdd
      have hst := slash_step hlt
      rw [hdd] at hst
      clear hdd hj
      rcases Decidable.em (d = 47) with h47 | h47
      · subst h47
        rw [if_pos rfl] at hst
        have HST := Lib.hid hst
        clear hst
        go_wp2_with fail
        go_round
        case rel => exact ⟨j, rfl, by rw [HST.out], by omega⟩
        case measure => simp [intOf] <;> omega
      · rw [if_neg h47] at hst
        have HST := Lib.hid hst
        clear hst
        have hne : ((d : Int) == 47) = false := by rw [beq_eq_false_iff_ne]; omega
        go_wp2_with fail
        go_round
        case rel => exact ⟨j, rfl, by rw [HST.out], by omega⟩
        case measure => simp [intOf] <;> omega
set_option maxRecDepth 100000 in
set_option maxHeartbeats 800000 in
theorem readq_den1 (hb : OkB bs) (hl : bs.length ≤ 200) (hf : (cutS bs).2.2 = true) (H : ∀ W : World, Below w.heap.size w W → Calls Tryz.prog 31 #[.string (strB (cutS bs).1)] W fun e w' => ∃ t B k d, e = .returned (.tuple #[.agg #[.bool t, .slice B k d], .int .i64 0]) ∧ NI w' t (.slice B k d) z L ∧ Below W.heap.size W w') (H' : ∀ W : World, Below w.heap.size w W → Calls Tryz.prog 33 #[.string (strB (cutS bs).2.1)] W fun e w' => ∃ A n c, e = .returned (.tuple #[.slice A n c, .int .i64 1]) ∧ NV w' (.slice A n c) x L ∧ Below W.heap.size W w') :
    Calls Tryz.prog 13 #[.string (strB bs)] w fun e w' => e = .returned (.tuple #[.agg #[.bool false, .slice none 0 0, .slice none 0 0], .int .i64 1]) ∧ Below w.heap.size w w' := by
  have HI := Lib.hid H
  clear H
  have HD := Lib.hid H'
  clear H'
  have hsz := strB_size bs
  have hat := fun k (h : k < (strB bs).size) => strB_at hb h
  have HAT := Lib.hid hat
  have HS0 : Hid (slashAt bs 0 = (cutS bs).1.length) := Lib.hid (slash_zero bs)
  have hx1 := cutS_first bs
  have hx2 := cutS_last hf
  have hlen := cutS_lens.2 hf
  clear hat hb
  generalize hsb : strB bs = s at *
  generalize hn : (cutS bs).1.length = n at *
  generalize strB (cutS bs).1 = ts at *
  generalize strB (cutS bs).2.1 = tr at *
  clear hsb hn hf
  have i1 : (0 : Int) ≤ (n : Int) := by omega
  have i2 : (n : Int) ≤ (bs.length : Int) := by omega
  have i3 : (n : Int) + 1 ≤ (bs.length : Int) := by omega
  have i4 : (0 : Int) ≤ (n : Int) + 1 := by omega
  have i5 : IntKind.i64.wrap ((n : Int) + 1) = (n : Int) + 1 := by simp [IntKind.wrap, IntKind.bits, IntKind.signed]; omega
  have i6 : decide ((n : Int) < (bs.length : Int)) = true := decide_eq_true (by omega)
  have i7 : n < bs.length := hlen
  have HLEN := Lib.hid hlen
  clear hlen
  go_enter Tryz.func13, Tryz.ntmps13
  go_wp2_with fail
  obtain ⟨W0, hW, b0, hbW, hszW0⟩ := boxes1 w #[.bool false, .slice none 0 0, .slice none 0 0] 45
  rw [hW]
  clear hW
  have H0 := hbW
  clear hbW
  go_loop [4, 5] (fun a i => ∃ k : Nat, i = .int .i64 ((k : Int) - 1) ∧ a = .int .i64 ((slashAt bs k : Nat) : Int) ∧ k ≤ bs.length) (fun a i => (intOf i + 1).toNat)
  case atStart => exact ⟨bs.length, rfl, by rw [slash_end], Nat.le_refl _⟩
  case round =>
    obtain ⟨k, rfl, rfl, hk⟩ := hrel
    rcases k with _ | j
    · have h0 : ((0 : Nat) : Int) - 1 = -1 := rfl
      rw [HS0.out, h0]
      clear h0 hk
      go_wp2_with fail
      refine (HI.out _ H0).mono ?_
      rintro e w1 ⟨s1, A1, n1, c1, rfl, fi, hb⟩
      replace b0 := b0.below hb
      replace H0 := H0.trans (hb.mono H0.size)
      clear hb
      have lb0_2 := b0.lt
      obtain ⟨W2, hW, b1, hbW, hszW2⟩ := boxes1 w1 #[.bool s1, .slice A1 n1 c1] 43
      skip
      skip
      replace fi := fi.below hbW
      replace b0 := b0.below hbW
      replace H0 := H0.trans (hbW.mono H0.size)
      clear hbW
      go_wp2_with fail
      clear hW
      refine (none_v _).mono ?_
      rintro e w3 ⟨A2, n2, c2, rfl, f2, hb⟩
      replace fi := fi.below hb
      replace b0 := b0.below hb
      replace b1 := b1.below hb
      replace H0 := H0.trans (hb.mono H0.size)
      clear hb
      go_wp2_with fail
      clear f2
      refine (HD.out _ H0).mono ?_
      rintro e w4 ⟨A3, n3, c3, rfl, f3, hb⟩
      replace fi := fi.below hb
      replace b0 := b0.below hb
      replace b1 := b1.below hb
      replace H0 := H0.trans (hb.mono H0.size)
      clear hb
      have cb00 := b0.cell 0 _ rfl
      have yb00 := b0.frozen 0
      have cb01 := b0.cell 1 _ rfl
      have yb01 := b0.frozen 1
      have cb02 := b0.cell 2 _ rfl
      have yb02 := b0.frozen 2
      go_wp2_with fail
      clear cb00 yb00 cb01 yb01 cb02 yb02
      have hg := only_store3 w4 (w.heap.size) (.bool false) (.slice none 0 0) (.slice none 0 0)
      have hB := b0.stored3 (.bool false) (.slice none 0 0) (.slice none 0 0)
      generalize hX : (((w4.setCell ⟨w.heap.size, 0, none⟩ (.bool false)).setCell ⟨w.heap.size, 1, none⟩ (.slice none 0 0)).setCell ⟨w.heap.size, 2, none⟩ (.slice none 0 0)) = X5 at hg hB ⊢
      clear hX
      replace fi := fi.kept b0 (by simp [notInt]) hg
      replace f3 := f3.kept b0 (by simp [notInt]) hg
      replace b1 := b1.other hg (by omega)
      replace b0 := hB
      replace H0 := below_only H0 hg (by omega) H0.size
      clear hg hB
      refine bodyPost_ret (ret_numq_b rfl rfl b0) rfl ?_
      exact ⟨rfl, H0⟩
    · have hj : ((j + 1 : Nat) : Int) - 1 = (j : Int) := by omega
      rw [hj]
      have hlt : j < bs.length := by omega
      have hlt2 : (j : Int) < (bs.length : Int) := by omega
      obtain ⟨d, hdd⟩ : ∃ d, bs.getD j 0 = d := ⟨_, rfl⟩
      have hix : ∀ h : j < s.size, (s[j]'h).toNat = d := fun h => by rw [HAT.out j h]; exact hdd
      have hst := slash_step hlt
      rw [hdd] at hst
      clear hdd hj
      rcases Decidable.em (d = 47) with h47 | h47
      · subst h47
        rw [if_pos rfl] at hst
        have HST := Lib.hid hst
        clear hst
        go_wp2_with fail
        go_round
        case rel => exact ⟨j, rfl, by rw [HST.out], by omega⟩
        case measure => simp [intOf] <;> omega
      · rw [if_neg h47] at hst
        have HST := Lib.hid hst
        clear hst
        have hne : ((d : Int) == 47) = false := by rw [beq_eq_false_iff_ne]; omega
        go_wp2_with fail
        go_round
        case rel => exact ⟨j, rfl, by rw [HST.out], by omega⟩
        case measure => simp [intOf] <;> omega
end
end Go.Proofs.YtancgkmkbgkncaaGreatDoor
