/-
  Only, Scale, Parse, Prefix in one text.
-/
import Derived.Test.YtancgkmkbgkncaaGreatDoorK2
import Derived.WalkSpells
import Derived.Lib.Strings
import Derived.LoopN
import Derived.Test.YtancgkmkbgkncaaGreatDoorK1
import Derived.Laws.MakeOwn
namespace Go.Proofs.YtancgkmkbgkncaaGreatDoor
open Go.RowKit

theorem strB_size (bs : List Nat) : (strB bs).size = bs.length := by simp [strB, ByteArray.size]
theorem strB_at {bs : List Nat} (hb : OkB bs) {k : Nat} (h : k < (strB bs).size) : ((strB bs)[k]'h).toNat = bs.getD k 0 := by
  have hk : k < bs.length := by rw [← strB_size]; exact h
  have h1 : ((strB bs)[k]'h) = UInt8.ofNat (bs[k]) := by
    simp [strB, ByteArray.getElem_eq_getElem_data]
  rw [h1, List.getD_eq_getElem?_getD, List.getElem?_eq_getElem hk]
  simp only [Option.getD_some]
  have := okB_get hb hk
  simp [Nat.mod_eq_of_lt this]
theorem strB_list (bs : List Nat) : (strB bs).toList = bs.map UInt8.ofNat := by
  rw [Lib.toList_data]; simp [strB]
/-- A decimal digit. -/
def Dig (b : Nat) : Prop := 48 ≤ b ∧ b ≤ 57
theorem first_bad {bs : List Nat} (h : ¬ ∀ b ∈ bs, Dig b) : ∃ j, j < bs.length ∧ ¬ Dig (bs.getD j 0) ∧ ∀ i, i < j → Dig (bs.getD i 0) := by
  induction bs with
  | nil => exact absurd (fun _ h => by cases h) h
  | cons b bs ih =>
    rcases Classical.em (Dig b) with hb | hb
    · have h2 : ¬ ∀ b ∈ bs, Dig b := fun h3 => h (fun x hx => by
        rcases List.mem_cons.1 hx with rfl | hx
        · exact hb
        · exact h3 x hx)
      obtain ⟨j, h3, h4, h5⟩ := ih h2
      refine ⟨j + 1, by simpa using h3, by simpa using h4, fun i hi => ?_⟩
      rcases i with _ | i
      · simpa using hb
      · have := h5 i (by omega); simpa using this
    · exact ⟨0, by simp, by simpa using hb, fun i hi => by omega⟩

section
variable {bs : List Nat} {w : World}
set_option maxRecDepth 100000 in
theorem only_yes (hb : OkB bs) (hl : bs.length ≤ 1000000000) (hd : ∀ b ∈ bs, Dig b) (hne : bs ≠ []) :
    Calls Tryz.prog 81 #[.string (strB bs)] w fun e w' => e = .returned (.bool true) ∧ w = w' := by
  have hsz := strB_size bs
  have hat := fun k (h : k < (strB bs).size) => strB_at hb h
  have hpos : 0 < bs.length := List.length_pos_iff.2 hne
  have hemp : (!(strB bs).toList.isEmpty) = true := by
    rw [strB_list]
    cases bs with
    | nil => exact absurd rfl hne
    | cons b bs => rfl
  have HE := Lib.hid hemp
  clear hemp
  have HAT := Lib.hid hat
  have HD := Lib.hid hd
  clear hat hd hne
  generalize hsb : strB bs = s at *
  clear hsb
  go_enter Tryz.func81, Tryz.ntmps81
  go_wp2_with fail
  go_loop [6] (fun i => ∃ k : Nat, i = .int .i64 k ∧ k ≤ bs.length) (fun i => bs.length - (intOf i).toNat)
  case atStart => exact ⟨0, rfl, Nat.zero_le _⟩
  case round =>
    obtain ⟨k, rfl, hk⟩ := hrel
    rcases Nat.lt_or_ge k bs.length with hlt | hge
    · have hlt2 : (k : Int) < (bs.length : Int) := by omega
      obtain ⟨d, hdd⟩ : ∃ d, bs.getD k 0 = d := ⟨_, rfl⟩
      have hdg : Dig d := by
        rw [← hdd, List.getD_eq_getElem?_getD, List.getElem?_eq_getElem hlt]; exact HD.out _ (List.getElem_mem hlt)
      have hix : ∀ h : k < s.size, (s[k]'h).toNat = d := fun h => by rw [HAT.out k h]; exact hdd
      obtain ⟨h1, h2⟩ := hdg
      have h3 : ¬ (d : Int) < 48 := by omega
      have h4 : ¬ (57 : Int) < (d : Int) := by omega
      have h5 : ¬ d < 48 := by omega
      have h6 : ¬ 57 < d := by omega
      clear hdd
      go_wp2_with fail
      go_round
      case rel => exact ⟨k + 1, by go_num, by omega⟩
      case measure => simp [intOf]; omega
    · obtain rfl : k = bs.length := by omega
      go_wp2_with fail
      go_ret
      exact ⟨by rw [← HE.out]; rfl, rfl⟩
set_option maxRecDepth 100000 in
theorem only_bad (hb : OkB bs) (hl : bs.length ≤ 1000000000) {j : Nat} (hj : j < bs.length) (hbad : ¬ Dig (bs.getD j 0)) (hgood : ∀ i, i < j → Dig (bs.getD i 0)) :
    Calls Tryz.prog 81 #[.string (strB bs)] w fun e w' => e = .returned (.bool false) ∧ w = w' := by
  have hsz := strB_size bs
  have hat := fun k (h : k < (strB bs).size) => strB_at hb h
  have HAT := Lib.hid hat
  have HD := Lib.hid hgood
  have HB := Lib.hid hbad
  clear hat hgood hbad
  generalize hsb : strB bs = s at *
  clear hsb
  go_enter Tryz.func81, Tryz.ntmps81
  go_wp2_with fail
  go_loop [6] (fun i => ∃ k : Nat, i = .int .i64 k ∧ k ≤ j) (fun i => bs.length - (intOf i).toNat)
  case atStart => exact ⟨0, rfl, Nat.zero_le _⟩
  case round =>
    obtain ⟨k, rfl, hk⟩ := hrel
    have hlt : k < bs.length := by omega
    have hlt2 : (k : Int) < (bs.length : Int) := by omega
    obtain ⟨d, hdd⟩ : ∃ d, bs.getD k 0 = d := ⟨_, rfl⟩
    have hix : ∀ h : k < s.size, (s[k]'h).toNat = d := fun h => by rw [HAT.out k h]; exact hdd
    rcases Nat.lt_or_ge k j with hkj | hkj
    · obtain ⟨h1, h2⟩ : Dig d := by rw [← hdd]; exact HD.out k hkj
      have h3 : ¬ (d : Int) < 48 := by omega
      have h4 : ¬ (57 : Int) < (d : Int) := by omega
      have h5 : ¬ d < 48 := by omega
      have h6 : ¬ 57 < d := by omega
      clear hdd
      go_wp2_with fail
      go_round
      case rel => exact ⟨k + 1, by go_num, by omega⟩
      case measure => simp [intOf]; omega
    · obtain rfl : k = j := by omega
      have hnd : ¬ Dig d := by rw [← hdd]; exact HB.out
      clear hdd
      rcases Nat.lt_or_ge d 48 with h5 | h5
      · have h3 : (d : Int) < 48 := by omega
        go_wp2_with fail
        go_ret
        exact ⟨rfl, rfl⟩
      · have h6 : 57 < d := by
          rcases Nat.lt_or_ge 57 d with h | h
          · exact h
          · exact absurd ⟨h5, h⟩ hnd
        have h3 : ¬ (d : Int) < 48 := by omega
        have h4 : (57 : Int) < (d : Int) := by omega
        have h7 : ¬ d < 48 := by omega
        go_wp2_with fail
        go_ret
        exact ⟨rfl, rfl⟩
set_option maxRecDepth 100000 in
theorem only_none : Calls Tryz.prog 81 #[.string (strB [])] w fun e w' => e = .returned (.bool false) ∧ w = w' := by
  have hsz := strB_size []
  have hs : strB [] = ⟨#[]⟩ := rfl
  rw [hs] at hsz ⊢
  go_enter Tryz.func81, Tryz.ntmps81
  go_wp2_with fail
  refine wp_loop_rounds 1 ?_
  rw [rounds_succ]
  go_wp2_with fail
  go_ret
  exact ⟨rfl, rfl⟩
theorem only_no (hb : OkB bs) (hl : bs.length ≤ 1000000000) (h : ¬ ((∀ b ∈ bs, Dig b) ∧ bs ≠ [])) :
    Calls Tryz.prog 81 #[.string (strB bs)] w fun e w' => e = .returned (.bool false) ∧ w = w' := by
  rcases Classical.em (bs = []) with rfl | hne
  · exact only_none
  · obtain ⟨j, h1, h2, h3⟩ := first_bad (bs := bs) (fun h4 => h ⟨h4, hne⟩)
    exact only_bad hb hl h1 h2 h3
end
end Go.Proofs.YtancgkmkbgkncaaGreatDoor
namespace Go.Proofs.YtancgkmkbgkncaaGreatDoor
open Go.RowKit

theorem scale_round {V b c S D d s t lo hi c0 : Nat} (h : V + b * c = S * s + c0) (ht : t = c + d * s) (hl : t = lo + 4294967296 * hi) (hD : D = S + b * d) : V + b * lo + 4294967296 * b * hi = D * s + c0 := by
  have e1 : b * t = b * c + b * (d * s) := by rw [ht, Nat.mul_add]
  have e2 : b * t = b * lo + b * (4294967296 * hi) := by rw [hl, Nat.mul_add]
  subst hD
  grind
/-- Digits of full length are the canonical ones. -/
theorem digs_full {zs : List Nat} {y : Nat} (hz : OkD zs) (hv : val zs = y) (hl : 0 < zs.length) (hy : Bs (zs.length - 1) ≤ y) : zs = digs y := by
  obtain ⟨m, hm⟩ : ∃ m, zs.length = m + 1 := ⟨zs.length - 1, by omega⟩
  rw [hm, Nat.add_sub_cancel] at hy
  have h1 := val_lt hz
  rw [hv, hm, Bs_succ] at h1
  have h2 : zs.getD m 0 ≠ 0 := by
    rw [val_digit _ hz, hv, Nat.mod_eq_of_lt (Nat.div_lt_of_lt_mul (by rw [Nat.mul_comm]; exact h1))]
    have := Nat.div_pos hy (Bs_pos m)
    omega
  have h3 := digs_of_take hz (k := m + 1) (by omega) (by rw [val_take_all (by omega)]) (.inr (by rw [Nat.add_sub_cancel]; exact h2))
  rw [hv, List.take_of_length_le (by omega)] at h3
  exact h3.symm
theorem Grow.set {w : World} {B g n cap : Nat} {ds : List Nat} (h : Grow w B (.slice (some ⟨g, 0, none⟩) n cap) ds) (j d : Nat) (hd : d < 4294967296) : Grow (w.setCell ⟨g, j, none⟩ (.int .u32 (d : Int))) B (.slice (some ⟨g, 0, none⟩) n cap) (ds.set j d) := by
  obtain ⟨h0, h1, h2⟩ := h
  refine ⟨okD_set h0 j hd, by simp, ?_⟩
  rcases h2 with ⟨h2, _⟩ | ⟨g', cap', cur, hv, hgB, hh, h3, h4, h5, h6⟩
  · injection h2 with h2; cases h2
  · injection hv with e1 e2 e3
    injection e1 with e1
    injection e1 with e1
    subst e1
    refine .inr ⟨g, cap', cur.setIfInBounds j (.int .u32 (d : Int)), ?_, hgB, heap_setCell_same w g j _ _ _ hh, by simpa using h3, h4, by simpa using h5, ?_⟩
    · rw [e3, List.length_set, e2]
    · rw [Nat.mul_one] at h6 ⊢
      rw [List.length_set, Array.toList_setIfInBounds, List.take_set, h6, List.map_set]
      rfl

set_option maxRecDepth 100000 in
set_option maxHeartbeats 1600000 in
theorem scaleadd_any {B n c x s c0 : Nat} {A : Option Addr} {w : World} (h : Grow w B (.slice A n c) (digs x)) (hB : B ≤ w.heap.size) (hs0 : 0 < s) (hs : s ≤ 1000000000) (hc0 : c0 < 4294967296) (hl : (digs x).length ≤ 1000000) :
    Calls Tryz.prog 82 #[.slice A n c, .int .u64 (s : Int), .int .u64 (c0 : Int)] w fun e w' => ∃ A' n' c', e = .returned (.slice A' n' c') ∧ Grow w' B (.slice A' n' c') (digs (x * s + c0)) ∧ Below B w w' := by
  obtain ⟨A1, c1, hform⟩ := h.form
  have hn : n = (digs x).length := by injection hform
  have HN := Lib.hid hn
  clear hform hn
  have hfin : ∀ (carry : Nat) (zk : List Nat), zk.length = (digs x).length → OkD zk → carry < 4294967296 → val zk + Bs (digs x).length * carry = x * s + c0 → (carry = 0 → zk = digs (x * s + c0)) ∧ (0 < carry → zk ++ [carry] = digs (x * s + c0)) := by
    intro carry zk h1 h2 h3 h4
    refine ⟨fun hc => ?_, fun hc => ?_⟩
    · subst hc
      rw [Nat.mul_zero, Nat.add_zero] at h4
      rcases Nat.eq_zero_or_pos x with hx | hx
      · subst hx
        rw [digs_zero] at h1
        have : zk = [] := List.eq_nil_of_length_eq_zero h1
        subst this
        rw [val_nil] at h4
        rw [← h4, digs_zero]
      · refine digs_full h2 h4 (by rw [h1]; exact digs_length_pos hx) ?_
        rw [h1]
        have e1 := le_of_digs_length hx
        have e2 : x * 1 ≤ x * s := Nat.mul_le_mul_left x hs0
        omega
    · refine digs_full (okD_append.2 ⟨h2, okD_cons.2 ⟨h3, okD_nil⟩⟩) (by rw [val_snoc, h1]; exact h4) (by simp) ?_
      rw [List.length_append, List.length_singleton, Nat.add_sub_cancel, h1, ← h4]
      have : Bs (digs x).length * 1 ≤ Bs (digs x).length * carry := Nat.mul_le_mul_left _ hc
      omega
  have HFIN := Lib.hid hfin
  clear hfin
  go_enter Tryz.func82, Tryz.ntmps82
  go_wp2_with fail
  go_loopw [2, 10] (fun cr i wr => ∃ (k carry : Nat) (zk : List Nat), i = .int .i64 k ∧ cr = .int .u64 carry ∧ k ≤ n ∧ carry < 4294967296 ∧ zk.length = n ∧ Grow wr B (.slice A n c) zk ∧ Below B w wr ∧ zk.drop k = (digs x).drop k ∧
      val (zk.take k) + Bs k * carry = val ((digs x).take k) * s + c0) (fun _ i _ => n - (intOf i).toNat)
  case atStart => exact ⟨0, c0, digs x, rfl, rfl, Nat.zero_le _, hc0, HN.out.symm, h, Below.refl _ _, rfl, by simp [val, Bs_zero]⟩
  case round =>
    obtain ⟨k, carry, zk, rfl, rfl, hk, hcar, hzl, hgr, hbr, hdr, hv⟩ := hrel
    have HV := Lib.hid hv
    have HDR := Lib.hid hdr
    have HZL := Lib.hid hzl
    clear hv hdr hzl
    have hn9 : n ≤ 1000000 := by rw [HN.out]; exact hl
    rcases Nat.lt_or_ge k n with hlt | hge
    · have hne : zk ≠ [] := by intro e; have := HZL.out; rw [e] at this; simp at this; omega
      obtain ⟨g, cap, hvv, hgB, hown, hcap⟩ := hgr.own hne
      injection hvv with e1 e2 e3
      subst e1
      have HE2 := Lib.hid e2
      have HE3 := Lib.hid e3
      have hcz := hown.cell (j := k) (by rw [HZL.out]; exact hlt)
      have hfr := hown.frozen k
      obtain ⟨d, hd⟩ : ∃ d, zk.getD k 0 = d := ⟨_, rfl⟩
      have bd : d < 4294967296 := by rw [← hd]; exact okD_getD hgr.okD k
      have hdx : (digs x).getD k 0 = d := by rw [← getD_of_drop HDR.out]; exact hd
      rw [hd] at hcz
      have HD := Lib.hid hdx
      clear hd hdx e2 e3
      obtain ⟨ds, hds⟩ : ∃ q, d * s = q := ⟨_, rfl⟩
      have hdsb : ds ≤ 4294967295000000000 := by have h := Nat.mul_le_mul (show d ≤ 4294967295 by omega) hs; omega
      have hdi : (d : Int) * (s : Int) = (ds : Int) := by rw [← hds]; norm_cast
      obtain ⟨t, ht⟩ : ∃ t, carry + ds = t := ⟨_, rfl⟩
      have hti : (carry : Int) + (ds : Int) = (t : Int) := by rw [← ht]; norm_cast
      have htb : t < 4294967300000000000 := by omega
      have i1 : (0 : Int) ≤ (k : Int) := by omega
      have i2 : (k : Int) < (n : Int) := by omega
      have w1 : IntKind.u64.wrap (ds : Int) = (ds : Int) := by simp [IntKind.wrap, IntKind.bits, IntKind.signed]; omega
      have w2 : IntKind.u64.wrap (t : Int) = (t : Int) := by simp [IntKind.wrap, IntKind.bits, IntKind.signed]; omega
      have HT := Lib.hid (show t = carry + d * s by rw [← ht, ← hds])
      clear hds ht
      go_wp2_with fail
      go_roundw
      case rel =>
        have e1 : (t : Int) / 4294967296 = ((t / 4294967296 : Nat) : Int) := by omega
        have e2 : (t : Int) % 4294967296 = ((t % 4294967296 : Nat) : Int) := by omega
        rw [e1, e2]
        refine ⟨k + 1, _, zk.set k (t % 4294967296), by go_num, rfl, by omega, by omega, by rw [List.length_set]; exact HZL.out, hgr.set k _ (by omega), hbr.setCell (p := ⟨g, k, none⟩) hgB _, ?_, ?_⟩
        · rw [List.drop_set_of_lt (by omega)]
          have h1 := congrArg (List.drop 1) HDR.out
          rw [List.drop_drop, List.drop_drop] at h1
          exact h1
        · rw [Bs_succ, val_take_set (by rw [HZL.out]; exact hlt)]
          exact scale_round HV.out HT.out (Nat.mod_add_div t 4294967296).symm (by rw [val_take_succ', HD.out])
      case measure => simp [intOf]; omega
    · obtain rfl : k = n := by omega
      have hv : val zk + Bs (digs x).length * carry = x * s + c0 := by
        have h1 := HV.out
        rw [val_take_all (by rw [HZL.out]; exact Nat.le_refl _), val_take_all (by rw [HN.out]; exact Nat.le_refl _), val_digs] at h1
        rw [← HN.out]; exact h1
      have hf := HFIN.out carry zk (by rw [HZL.out, HN.out]) hgr.okD hcar hv
      have HF := Lib.hid hf
      have hzl9 : zk.length ≤ 1000000 := by rw [HZL.out]; exact hn9
      clear hv hf
      rcases Nat.eq_zero_or_pos carry with rfl | hc
      · go_wp2_with fail
        go_ret
        exact ⟨A, _, c, rfl, by rw [← HF.out.1 (by trivial)]; exact hgr, hbr⟩
      · have hcm : (carry : Int) % 4294967296 = (carry : Int) := by omega
        have hcp : (0 : Int) < (carry : Int) := by omega
        have hlit := (own_lit wr #[.int .u32 (carry : Int)] [carry] rfl).raw_all (okD_cons.2 ⟨hcar, okD_nil⟩) (by simp) 1 1 rfl (Nat.le_refl _)
        have hBr : B ≤ wr.heap.size := Nat.le_trans hB hbr.size
        go_wp2_with (at_builtin; refine wpList_append_digs rfl _ _ _ _ rfl Tryz.underlying25 Tryz.underlying25 B rfl (grow_alloc hgr _) rfl hlit (by simp; omega) (by simp; omega) ?_; intro v4 w4 hg4 hgr4 hb4)
        have hb5 := hbr.trans (((Below.refl B wr).alloc hBr (.cells #[.int .u32 (carry : Int)] 64)).trans hb4)
        rw [HF.out.2 hc] at hg4
        obtain ⟨A4, c4, rfl⟩ := hg4.form
        go_wp2_with fail
        go_ret
        exact ⟨A4, _, c4, rfl, hg4, hb5⟩
end Go.Proofs.YtancgkmkbgkncaaGreatDoor
namespace Go.Proofs.YtancgkmkbgkncaaGreatDoor
open Go.RowKit

/-- The value of decimal digits, the most significant first. -/
def decN (bs : List Nat) : Nat := bs.foldl (fun a b => a * 10 + (b - 48)) 0
theorem decN_snoc (bs : List Nat) (b : Nat) : decN (bs ++ [b]) = decN bs * 10 + (b - 48) := by simp [decN]
theorem decF (bs : List Nat) (a : Nat) : bs.foldl (fun a b => a * 10 + (b - 48)) a = a * 10 ^ bs.length + decN bs := by
  unfold decN
  induction bs generalizing a with
  | nil => simp
  | cons b bs ih =>
    rw [List.foldl_cons, ih, List.foldl_cons, ih (0 * 10 + (b - 48)), List.length_cons, Nat.pow_succ]
    grind
theorem decN_append (cs bs : List Nat) : decN (cs ++ bs) = decN cs * 10 ^ bs.length + decN bs := by
  show (cs ++ bs).foldl (fun a b => a * 10 + (b - 48)) 0 = _
  rw [List.foldl_append, decF]
  rfl
theorem decN_take_succ {bs : List Nat} {i : Nat} (h : i < bs.length) : decN (bs.take (i + 1)) = decN (bs.take i) * 10 + (bs.getD i 0 - 48) := by
  rw [List.take_succ_eq_append_getElem h, decN_snoc, List.getD_eq_getElem?_getD, List.getElem?_eq_getElem h]
  rfl
theorem decN_lt {bs : List Nat} (h : ∀ b ∈ bs, Dig b) : decN bs < 10 ^ bs.length := by
  induction bs with
  | nil => simp [decN]
  | cons b bs ih =>
    have h1 := ih (fun x hx => h x (List.mem_cons_of_mem _ hx))
    obtain ⟨h2, h3⟩ := h b (List.mem_cons_self ..)
    have h4 : decN (b :: bs) = (0 * 10 + (b - 48)) * 10 ^ bs.length + decN bs := decF bs _
    rw [h4, List.length_cons, Nat.pow_succ]
    have h5 : (0 * 10 + (b - 48)) * 10 ^ bs.length ≤ 9 * 10 ^ bs.length := Nat.mul_le_mul_right _ (by omega)
    omega
theorem dec_len {bs : List Nat} (h : ∀ b ∈ bs, Dig b) (k : Nat) : (digs (decN (bs.take k))).length ≤ k := by
  refine digs_length_le (Nat.lt_of_lt_of_le (decN_lt (fun b hb => h b (List.mem_of_mem_take hb))) ?_)
  refine Nat.le_trans (Nat.pow_le_pow_right (by omega) (List.length_take_le k bs)) ?_
  exact Nat.pow_le_pow_left (by omega) k
theorem strB_extract (l : List Nat) (n : Nat) : (strB l).extract n l.length = strB (l.drop n) := by
  apply ByteArray.ext
  apply Array.toList_inj.1
  rw [Lib.extract_data]
  simp [strB, List.take_of_length_le]
def strLen : Value → Nat
  | .string s => s.size
  | _ => 0
theorem make_cap (m : Nat) (hm : m ≤ 1000000) (w : World) :
    ∃ w', (Instr.makeSlice 25 (.int .i64 0) (.int .i64 (m : Int))).run Tryz.prog w = .ok (.slice (some ⟨w.heap.size, 0, none⟩) 0 m) w' ∧ Grow w' w.heap.size (.slice (some ⟨w.heap.size, 0, none⟩) 0 m) (digs 0) ∧ Below w.heap.size w w' := by
  obtain ⟨i, hi, hz, hs, hby⟩ := info_parts Tryz.info_u32
  have hr := run_make (P := Tryz.prog) w 25 64 i (.int .u32 0) Tryz.underlying25 hi hz .i64 .i64 0 m (by omega) (by omega) (by rw [hby]; omega) (by omega)
  simp only [Int.toNat_natCast, Int.toNat_zero] at hr
  obtain ⟨w2, hr2, ho, _⟩ := run_makeSlice_owned (P := Tryz.prog) w w.heap.size 25 64 i (.int .u32 0) 1 Tryz.underlying25 hi hz hs .i64 .i64 m (by omega) (by rw [hby]; omega) (by unfold maxLen; omega) (Nat.le_refl _)
  rw [hr] at hr2
  injection hr2 with _ hw
  subst hw
  refine ⟨_, hr, ⟨by rw [digs_zero]; exact okD_nil, by rw [digs_zero]; simpa using ho⟩, (Below.refl _ _).alloc (Nat.le_refl _) _⟩

set_option maxRecDepth 100000 in
set_option maxHeartbeats 6400000 in
theorem parse_yes {bs : List Nat} {w : World} (hb : OkB bs) (hd : ∀ b ∈ bs, Dig b) (hne : bs ≠ []) (hl : bs.length ≤ 4096) :
    Calls Tryz.prog 49 #[.string (strB bs)] w fun e w' => ∃ A n c, e = .returned (.tuple #[.slice A n c, .nilIface]) ∧ Num w' (.slice A n c) (decN bs) ∧ Below w.heap.size w w' := by
  have hon := only_yes (w := w) hb (by omega) hd hne
  have hsz0 := strB_size bs
  have hpos := List.length_pos_iff.2 hne
  have i0 : ¬ (4096 : Int) < (bs.length : Int) := by omega
  have i0' : ¬ 4096 < bs.length := by omega
  have HON := Lib.hid hon
  obtain ⟨m, hm⟩ : ∃ m, bs.length / 9 + 1 = m := ⟨_, rfl⟩
  have hmi : (bs.length : Int) / 9 + 1 = (m : Int) := by omega
  obtain ⟨w1, hmk, hg0, hb0⟩ := make_cap m (by omega) w
  have HG0 := Lib.hid hg0
  have HL := Lib.hid hl
  clear hon hne hm hg0
  go_enter Tryz.func49, Tryz.ntmps49
  go_wp2_with fail
  refine HON.out.mono ?_
  rintro e w' ⟨rfl, rfl⟩
  go_wp2_with fail
  go_loopw [0, 4] (fun sv av wr => ∃ (k : Nat) (A : Option Addr) (n c : Nat), sv = .string (strB (bs.drop k)) ∧ k ≤ bs.length ∧ av = .slice A n c ∧ Grow wr w.heap.size (.slice A n c) (digs (decN (bs.take k))) ∧ Below w.heap.size w wr) (fun sv _ _ => strLen sv)
  case atStart => exact ⟨0, _, _, _, by rw [List.drop_zero], Nat.zero_le _, rfl, HG0.out, hb0⟩
  case round =>
    obtain ⟨k, A, n, c, rfl, hk, rfl, hgr, hbr⟩ := hrel
    have HG := Lib.hid hgr
    have hsz := strB_size (bs.drop k)
    rw [List.length_drop] at hsz
    rcases Nat.lt_or_ge k bs.length with hlt | hge
    · obtain ⟨r, hr⟩ : ∃ r, bs.length - k = r := ⟨_, rfl⟩
      rw [hr] at hsz
      have hr0 : (0 : Int) < (r : Int) := by omega
      have hr0' : 0 < r := by omega
      have hrl : r ≤ 4096 := by have := HL.out; omega
      obtain ⟨n9, hn9⟩ : ∃ q, min r 9 = q := ⟨_, rfl⟩
      have hn9a : n9 ≤ 9 := by omega
      have hn9b : n9 ≤ r := by omega
      have hn90 : 0 < n9 := by omega
      have hmin : ∀ W : World, (Builtin.min_ #[3, 3] 3 #[.int .i64 (r : Int), .int .i64 9]).run Tryz.prog W = .ok (.int .i64 (n9 : Int)) W := fun W => by
        rw [run_min_int2]; congr 2; split <;> omega
      have hat := fun i (h : i < (strB (bs.drop k)).size) => strB_at (okB_drop hb k) h
      have HAT := Lib.hid hat
      have hex : (strB (bs.drop k)).extract n9 r = strB (bs.drop (k + n9)) := by
        have h1 := strB_extract (bs.drop k) n9
        rw [List.length_drop, hr, List.drop_drop] at h1
        exact h1
      obtain ⟨s, hs⟩ : ∃ s, strB (bs.drop k) = s := ⟨_, rfl⟩
      obtain ⟨s2, hs2⟩ : ∃ s, strB (bs.drop (k + n9)) = s := ⟨_, rfl⟩
      rw [hs, hs2] at hex
      rw [hs] at hsz
      have HS := Lib.hid hs
      have HS2 := Lib.hid hs2
      rw [hs]
      have HR := Lib.hid hr
      clear hat hr hs hs2 hn9
      have i9 : (0 : Int) ≤ (n9 : Int) := by omega
      have i10 : (n9 : Int) ≤ (r : Int) := by omega
      have HN9 := Lib.hid hn9a
      go_wp2_with fail
      go_loop [6, 7, 29] (fun sc gp iv => ∃ (i p q : Nat), iv = .int .i64 i ∧ sc = .int .u64 p ∧ gp = .int .u64 q ∧ i ≤ n9 ∧ p = 10 ^ i ∧ q = decN ((bs.drop k).take i)) (fun _ _ iv => n9 - (intOf iv).toNat)
      case atStart => exact ⟨0, 1, 0, rfl, rfl, rfl, Nat.zero_le _, rfl, rfl⟩
      case round =>
        obtain ⟨i, p, q, rfl, rfl, rfl, hi, hp, hq⟩ := hrel
        have hlen : ((bs.drop k).take i).length = i := by rw [List.length_take, List.length_drop, HR.out]; omega
        have hqb : q < p := by
          rw [hp, hq]
          have h1 := decN_lt (bs := (bs.drop k).take i) (fun b h => hd b (List.mem_of_mem_drop (List.mem_of_mem_take h)))
          rwa [hlen] at h1
        have hp0 : 0 < p := by omega
        have hp9 : p ≤ 1000000000 := by
          rw [hp]
          exact Nat.le_trans (Nat.pow_le_pow_right (by omega) (show i ≤ 9 by omega)) (by decide)
        have HP := Lib.hid hp
        have HQ := Lib.hid hq
        rcases Nat.lt_or_ge i n9 with hin | hin
        · have hp8 : p ≤ 100000000 := by
            rw [hp]
            exact Nat.le_trans (Nat.pow_le_pow_right (by omega) (show i ≤ 8 by omega)) (by decide)
          obtain ⟨d, hdd⟩ : ∃ d, (bs.drop k).getD i 0 = d := ⟨_, rfl⟩
          have hdi : i < (bs.drop k).length := by rw [List.length_drop, HR.out]; omega
          have hdg : Dig d := by
            rw [← hdd, List.getD_eq_getElem?_getD, List.getElem?_eq_getElem hdi]
            exact hd _ (List.mem_of_mem_drop (List.getElem_mem hdi))
          obtain ⟨hd1, hd2⟩ := hdg
          have hix : ∀ h : i < s.size, (s[i]'h).toNat = d := fun h => by
            have hs := HS.out
            subst hs
            rw [HAT.out i h]; exact hdd
          have HDD := Lib.hid hdd
          have j1 : (i : Int) < (n9 : Int) := by omega
          have j2 : (i : Int) < (r : Int) := by omega
          have v1 : IntKind.u64.wrap ((p : Int) * 10) = (p : Int) * 10 := by simp [IntKind.wrap, IntKind.bits, IntKind.signed]; omega
          have v2 : IntKind.u64.wrap ((q : Int) * 10) = (q : Int) * 10 := by simp [IntKind.wrap, IntKind.bits, IntKind.signed]; omega
          have v3 : IntKind.u8.wrap ((d : Int) - 48) = (d : Int) - 48 := by simp [IntKind.wrap, IntKind.bits, IntKind.signed]; omega
          have v4 : IntKind.u64.wrap ((d : Int) - 48) = (d : Int) - 48 := by simp [IntKind.wrap, IntKind.bits, IntKind.signed]; omega
          have v5 : IntKind.u64.wrap ((q : Int) * 10 + ((d : Int) - 48)) = (q : Int) * 10 + ((d : Int) - 48) := by simp [IntKind.wrap, IntKind.bits, IntKind.signed]; omega
          clear hp hq hdd hdi hlen
          go_wp2_with fail
          go_round
          case rel =>
            refine ⟨i + 1, p * 10, q * 10 + (d - 48), by go_num, ?_, ?_, by omega, by rw [HP.out, Nat.pow_succ], ?_⟩
            · congr 1
            · congr 1; omega
            · rw [decN_take_succ (by rw [List.length_drop, HR.out]; omega), HDD.out, HQ.out]
          case measure => simp [intOf]; omega
        · obtain rfl : i = n9 := by omega
          have hx : decN (bs.take k) * p + q = decN (bs.take (k + i)) := by
            rw [HP.out, HQ.out, List.take_add, decN_append, hlen]
          have HX := Lib.hid hx
          have hdl := dec_len hd k
          have hsc := scaleadd_any (s := p) (c0 := q) HG.out hbr.size hp0 hp9 (by omega) (by omega)
          rw [hx] at hsc
          have HSC := Lib.hid hsc
          clear hp hq hlen hx hsc hdl
          go_wp2_with fail
          refine HSC.out.mono ?_
          rintro e w2 ⟨A', n', c', rfl, hg2, hb2⟩
          have hb3 := hbr.trans hb2
          go_wp2_with fail
          go_roundw
          case rel => exact ⟨k + i, A', n', c', by rw [HS2.out], by have := HR.out; omega, rfl, hg2, hb3⟩
          case measure =>
            have h2 := HS2.out
            subst h2
            simp only [strLen]
            rw [strB_size, hsz, List.length_drop]
            have := HR.out
            omega
    · obtain rfl : k = bs.length := by omega
      have hsz3 : (strB (bs.drop bs.length)).size = 0 := by rw [hsz]; omega
      have hraw := hgr.raw (Nat.le_trans (dec_len hd bs.length) (by omega))
      rw [List.take_length] at hraw
      have HRW := Lib.hid hraw
      obtain ⟨s, hs⟩ : ∃ s, strB (bs.drop bs.length) = s := ⟨_, rfl⟩
      rw [hs] at hsz3 ⊢
      clear hsz hs hraw hgr
      go_wp2_with fail
      go_ret2
      exact ⟨A, n, c, rfl, HRW.out, hbr⟩
end Go.Proofs.YtancgkmkbgkncaaGreatDoor
namespace Go.Proofs.YtancgkmkbgkncaaGreatDoor
open Go.RowKit

theorem strB_head (b : Nat) (t : List Nat) : (strB (b :: t)).extract 0 1 = strB [b] := by
  apply ByteArray.ext
  apply Array.toList_inj.1
  rw [Lib.extract_data]
  simp [strB]
theorem strB_tail (b : Nat) (t : List Nat) : (strB (b :: t)).extract 1 (t.length + 1) = strB t := by
  have h := strB_extract (b :: t) 1
  rwa [List.length_cons] at h
set_option maxRecDepth 100000 in
theorem hasprefix_yes {s : ByteArray} {n : Nat} (hs : s.size = n + 1) (he : s.extract 0 1 = ⟨#[45]⟩) (w : World) :
    Calls Tryz.prog 105 #[.string s, .string ⟨#[45]⟩] w fun e w' => e = .returned (.bool true) ∧ w = w' := by
  have h1 : (1 : Int) ≤ (n : Int) + 1 := by omega
  go_enter Tryz.func105, Tryz.ntmps105
  go_wp2_with fail
  go_ret
  exact ⟨rfl, rfl⟩
set_option maxRecDepth 100000 in
theorem hasprefix_no {s : ByteArray} {n b : Nat} (hs : s.size = n + 1) (he : s.extract 0 1 = strB [b]) (hb : b < 256) (hn : b ≠ 45) (w : World) :
    Calls Tryz.prog 105 #[.string s, .string ⟨#[45]⟩] w fun e w' => e = .returned (.bool false) ∧ w = w' := by
  have h1 : (1 : Int) ≤ (n : Int) + 1 := by omega
  have hq : ((strB [b]).toList == [45]) = false := by
    rw [strB_list]
    rw [beq_eq_false_iff_ne]
    intro h
    simp only [List.map_cons, List.map_nil, List.cons.injEq, and_true] at h
    have h2 := congrArg UInt8.toNat h
    rw [UInt8.toNat_ofNat_of_lt' (show b < UInt8.size from hb)] at h2
    exact hn h2
  go_enter Tryz.func105, Tryz.ntmps105
  go_wp2_with fail
  go_ret
  exact ⟨rfl, rfl⟩
set_option maxRecDepth 100000 in
theorem hasprefix_none (w : World) :
    Calls Tryz.prog 105 #[.string ⟨#[]⟩, .string ⟨#[45]⟩] w fun e w' => e = .returned (.bool false) ∧ w = w' := by
  have h0 : (⟨#[]⟩ : ByteArray).size = 0 := rfl
  go_enter Tryz.func105, Tryz.ntmps105
  go_wp2_with fail
  go_ret
  exact ⟨rfl, rfl⟩
/-- The sign and the digits. -/
def splitM : List Nat → Bool × List Nat
  | [] => (false, [])
  | b :: t => if b = 45 then (true, t) else (false, b :: t)
theorem splitM_cons (b : Nat) (t : List Nat) : splitM (b :: t) = if b = 45 then (true, t) else (false, b :: t) := rfl
set_option maxRecDepth 100000 in
theorem cutlite_v {bs : List Nat} (hb : OkB bs) (hl : bs.length ≤ 1000000) (w : World) :
    Calls Tryz.prog 77 #[.string (strB bs), .string ⟨#[45]⟩] w fun e w' => e = .returned (.tuple #[.string (strB (splitM bs).2), .bool (splitM bs).1]) ∧ w = w' := by
  rcases bs with _ | ⟨b, t⟩
  · have hs : strB [] = ⟨#[]⟩ := rfl
    have hsp : splitM [] = (false, []) := rfl
    rw [hsp, hs]
    go_enter Tryz.func77, Tryz.ntmps77
    go_wp2_with fail
    refine (hasprefix_none w).mono ?_
    rintro e w' ⟨rfl, rfl⟩
    go_wp2_with fail
    go_ret2
    exact ⟨rfl, rfl⟩
  · have hsz := strB_size (b :: t)
    rw [List.length_cons] at hsz hl
    have hh := strB_head b t
    have htl := strB_tail b t
    by_cases h45 : b = 45
    · subst h45
      have hsp : splitM (45 :: t) = (true, t) := by rw [splitM_cons, if_pos rfl]
      have hp := hasprefix_yes hsz hh w
      rw [hsp]
      have h1 : (1 : Int) ≤ (t.length : Int) + 1 := by omega
      have HP := Lib.hid hp
      obtain ⟨s, hs⟩ : ∃ s, strB (45 :: t) = s := ⟨_, rfl⟩
      obtain ⟨s2, hs2⟩ : ∃ s, strB t = s := ⟨_, rfl⟩
      rw [hs] at hsz htl HP ⊢
      rw [hs2] at htl ⊢
      clear hp hh hs hs2 hb
      go_enter Tryz.func77, Tryz.ntmps77
      go_wp2_with fail
      refine HP.out.mono ?_
      rintro e w' ⟨rfl, rfl⟩
      go_wp2_with fail
      go_ret2
      exact ⟨rfl, rfl⟩
    · have hsp : splitM (b :: t) = (false, b :: t) := by rw [splitM_cons, if_neg h45]
      have hp := hasprefix_no hsz hh (okB_cons.1 hb).1 h45 w
      rw [hsp]
      have HP := Lib.hid hp
      clear hp hh htl hb
      go_enter Tryz.func77, Tryz.ntmps77
      go_wp2_with fail
      refine HP.out.mono ?_
      rintro e w' ⟨rfl, rfl⟩
      go_wp2_with fail
      go_ret2
      exact ⟨rfl, rfl⟩
set_option maxRecDepth 100000 in
theorem cutprefix_v {bs : List Nat} (hb : OkB bs) (hl : bs.length ≤ 1000000) (w : World) :
    Calls Tryz.prog 45 #[.string (strB bs), .string ⟨#[45]⟩] w fun e w' => e = .returned (.tuple #[.string (strB (splitM bs).2), .bool (splitM bs).1]) ∧ w = w' := by
  have H := Lib.hid (cutlite_v hb hl w)
  go_enter Tryz.func45, Tryz.ntmps45
  go_wp2_with fail
  refine H.out.mono ?_
  rintro e w' ⟨rfl, rfl⟩
  go_wp2_with fail
  go_ret2
  exact ⟨rfl, rfl⟩
theorem split_ok {bs : List Nat} (hb : OkB bs) : OkB (splitM bs).2 := by
  rcases bs with _ | ⟨b, t⟩
  · exact okB_nil
  · rw [splitM_cons]; split
    · exact (okB_cons.1 hb).2
    · exact hb
theorem split_len (bs : List Nat) : (splitM bs).2.length ≤ bs.length := by
  rcases bs with _ | ⟨b, t⟩
  · exact Nat.le_refl _
  · rw [splitM_cons]; split
    · simp
    · exact Nat.le_refl _
end Go.Proofs.YtancgkmkbgkncaaGreatDoor
