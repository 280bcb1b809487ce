/-
  The contract of scaleAdd.
-/
import Derived.Test.YtacfdcfkfjildaaDoorAddMul
import Derived.Test.YtacfdcfkfjildaaDoorBase
import Derived.LoopN
namespace Go.Proofs.YtacfdcfkfjildaaDoor
open Go.RowKit

theorem scale_round {V b c S D d s t lo hi c0 : Nat} (h : V + b * c = S * s + c0) (ht : t = c + d * s) (hl : t = lo + 4294967296 * hi) (hD : D = S + b * d) : V + b * lo + 4294967296 * b * hi = D * s + c0 := by
  have e1 : b * t = b * c + b * (d * s) := by rw [ht, Nat.mul_add]
  have e2 : b * t = b * lo + b * (4294967296 * hi) := by rw [hl, Nat.mul_add]
  subst hD
  grind
/-- Digits of full length are the canonical ones. -/
theorem digs_full {zs : List Nat} {y : Nat} (hz : OkD zs) (hv : val zs = y) (hl : 0 < zs.length) (hy : Bs (zs.length - 1) ≤ y) : zs = digs y := by
  obtain ⟨m, hm⟩ : ∃ m, zs.length = m + 1 := ⟨zs.length - 1, by omega⟩
  rw [hm, Nat.add_sub_cancel] at hy
  have h1 := val_lt hz
  rw [hv, hm, Bs_succ] at h1
  have h2 : zs.getD m 0 ≠ 0 := by
    rw [val_digit _ hz, hv, Nat.mod_eq_of_lt (Nat.div_lt_of_lt_mul (by rw [Nat.mul_comm]; exact h1))]
    have := Nat.div_pos hy (Bs_pos m)
    omega
  have h3 := digs_of_take hz (k := m + 1) (by omega) (by rw [val_take_all (by omega)]) (.inr (by rw [Nat.add_sub_cancel]; exact h2))
  rw [hv, List.take_of_length_le (by omega)] at h3
  exact h3.symm
theorem Grow.own_at {w : World} {B g n cap : Nat} {ds : List Nat} (h : Grow w B (.slice (some ⟨g, 0, none⟩) n cap) ds) (hne : ds ≠ []) : Own w g ds ∧ B ≤ g ∧ n = ds.length := by
  obtain ⟨g', cap', hv, hB, ho, _⟩ := h.own hne
  injection hv with h1 h2 h3
  injection h1 with h1
  injection h1 with h1
  subst h1
  exact ⟨ho, hB, h2⟩
theorem Grow.set {w : World} {B g n cap : Nat} {ds : List Nat} (h : Grow w B (.slice (some ⟨g, 0, none⟩) n cap) ds) (j d : Nat) (hd : d < 4294967296) : Grow (w.setCell ⟨g, j, none⟩ (.int .u32 (d : Int))) B (.slice (some ⟨g, 0, none⟩) n cap) (ds.set j d) := by
  obtain ⟨h0, h1, h2⟩ := h
  refine ⟨okD_set h0 j hd, by simp, ?_⟩
  rcases h2 with ⟨h2, _⟩ | ⟨g', cap', cur, hv, hgB, hh, h3, h4, h5, h6⟩
  · injection h2 with h2; cases h2
  · injection hv with e1 e2 e3
    injection e1 with e1
    injection e1 with e1
    subst e1
    refine .inr ⟨g, cap', cur.setIfInBounds j (.int .u32 (d : Int)), ?_, hgB, heap_setCell_same w g j _ _ _ hh, by simpa using h3, h4, by simpa using h5, ?_⟩
    · rw [e3, List.length_set, e2]
    · rw [Nat.mul_one] at h6 ⊢
      rw [List.length_set, Array.toList_setIfInBounds, List.take_set, h6, List.map_set]
      rfl

set_option maxRecDepth 100000 in
set_option maxHeartbeats 1600000 in
theorem scaleadd_any {B n c x s c0 : Nat} {A : Option Addr} {w : World} (h : Grow w B (.slice A n c) (digs x)) (hB : B ≤ w.heap.size) (hs0 : 0 < s) (hs : s ≤ 1000000000) (hc0 : c0 < 4294967296) (hl : (digs x).length ≤ 1000000) :
    Calls Tryd.prog 101 #[.slice A n c, .int .u64 (s : Int), .int .u64 (c0 : Int)] w fun e w' => ∃ A' n' c', e = .returned (.slice A' n' c') ∧ Grow w' B (.slice A' n' c') (digs (x * s + c0)) ∧ Below B w w' := by
  obtain ⟨A1, c1, hform⟩ := h.form
  have hn : n = (digs x).length := by injection hform
  have HN := Lib.hid hn
  clear hform hn
  have hfin : ∀ (carry : Nat) (zk : List Nat), zk.length = (digs x).length → OkD zk → carry < 4294967296 → val zk + Bs (digs x).length * carry = x * s + c0 → (carry = 0 → zk = digs (x * s + c0)) ∧ (0 < carry → zk ++ [carry] = digs (x * s + c0)) := by
    intro carry zk h1 h2 h3 h4
    refine ⟨fun hc => ?_, fun hc => ?_⟩
    · subst hc
      rw [Nat.mul_zero, Nat.add_zero] at h4
      rcases Nat.eq_zero_or_pos x with hx | hx
      · subst hx
        rw [digs_zero] at h1
        have : zk = [] := List.eq_nil_of_length_eq_zero h1
        subst this
        rw [val_nil] at h4
        rw [← h4, digs_zero]
      · refine digs_full h2 h4 (by rw [h1]; exact digs_length_pos hx) ?_
        rw [h1]
        have e1 := le_of_digs_length hx
        have e2 : x * 1 ≤ x * s := Nat.mul_le_mul_left x hs0
        omega
    · refine digs_full (okD_append.2 ⟨h2, okD_cons.2 ⟨h3, okD_nil⟩⟩) (by rw [val_snoc, h1]; exact h4) (by simp) ?_
      rw [List.length_append, List.length_singleton, Nat.add_sub_cancel, h1, ← h4]
      have : Bs (digs x).length * 1 ≤ Bs (digs x).length * carry := Nat.mul_le_mul_left _ hc
      omega
  have HFIN := Lib.hid hfin
  clear hfin
  go_enter Tryd.func101, Tryd.ntmps101
  go_wp2_with fail
  go_loopw [2, 10] (fun cr i wr => ∃ (k carry : Nat) (zk : List Nat), i = .int .i64 k ∧ cr = .int .u64 carry ∧ k ≤ n ∧ carry < 4294967296 ∧ zk.length = n ∧ Grow wr B (.slice A n c) zk ∧ Below B w wr ∧ zk.drop k = (digs x).drop k ∧
      val (zk.take k) + Bs k * carry = val ((digs x).take k) * s + c0) (fun _ i _ => n - (intOf i).toNat)
  case atStart => exact ⟨0, c0, digs x, rfl, rfl, Nat.zero_le _, hc0, HN.out.symm, h, Below.refl _ _, rfl, by simp [val, Bs_zero]⟩
  case round =>
    obtain ⟨k, carry, zk, rfl, rfl, hk, hcar, hzl, hgr, hbr, hdr, hv⟩ := hrel
    have HV := Lib.hid hv
    have HDR := Lib.hid hdr
    have HZL := Lib.hid hzl
    clear hv hdr hzl
    have hn9 : n ≤ 1000000 := by rw [HN.out]; exact hl
    rcases Nat.lt_or_ge k n with hlt | hge
    · have hne : zk ≠ [] := by intro e; have := HZL.out; rw [e] at this; simp at this; omega
      obtain ⟨g, cap, hvv, hgB, hown, hcap⟩ := hgr.own hne
      injection hvv with e1 e2 e3
      subst e1
      have HE2 := Lib.hid e2
      have HE3 := Lib.hid e3
      have hcz := hown.cell (j := k) (by rw [HZL.out]; exact hlt)
      have hfr := hown.frozen k
      obtain ⟨d, hd⟩ : ∃ d, zk.getD k 0 = d := ⟨_, rfl⟩
      have bd : d < 4294967296 := by rw [← hd]; exact okD_getD hgr.okD k
      have hdx : (digs x).getD k 0 = d := by rw [← getD_of_drop HDR.out]; exact hd
      rw [hd] at hcz
      have HD := Lib.hid hdx
      clear hd hdx e2 e3
      obtain ⟨ds, hds⟩ : ∃ q, d * s = q := ⟨_, rfl⟩
      have hdsb : ds ≤ 4294967295000000000 := by have h := Nat.mul_le_mul (show d ≤ 4294967295 by omega) hs; omega
      have hdi : (d : Int) * (s : Int) = (ds : Int) := by rw [← hds]; norm_cast
      obtain ⟨t, ht⟩ : ∃ t, carry + ds = t := ⟨_, rfl⟩
      have hti : (carry : Int) + (ds : Int) = (t : Int) := by rw [← ht]; norm_cast
      have htb : t < 4294967300000000000 := by omega
      have i1 : (0 : Int) ≤ (k : Int) := by omega
      have i2 : (k : Int) < (n : Int) := by omega
      have w1 : IntKind.u64.wrap (ds : Int) = (ds : Int) := by simp [IntKind.wrap, IntKind.bits, IntKind.signed]; omega
      have w2 : IntKind.u64.wrap (t : Int) = (t : Int) := by simp [IntKind.wrap, IntKind.bits, IntKind.signed]; omega
      have HT := Lib.hid (show t = carry + d * s by rw [← ht, ← hds])
      clear hds ht
      go_wp2_with fail
      go_roundw
      case rel =>
        have e1 : (t : Int) / 4294967296 = ((t / 4294967296 : Nat) : Int) := by omega
        have e2 : (t : Int) % 4294967296 = ((t % 4294967296 : Nat) : Int) := by omega
        rw [e1, e2]
        refine ⟨k + 1, _, zk.set k (t % 4294967296), by go_num, rfl, by omega, by omega, by rw [List.length_set]; exact HZL.out, hgr.set k _ (by omega), hbr.setCell (p := ⟨g, k, none⟩) hgB _, ?_, ?_⟩
        · rw [List.drop_set_of_lt (by omega)]
          have h1 := congrArg (List.drop 1) HDR.out
          rw [List.drop_drop, List.drop_drop] at h1
          exact h1
        · rw [Bs_succ, val_take_set (by rw [HZL.out]; exact hlt)]
          exact scale_round HV.out HT.out (Nat.mod_add_div t 4294967296).symm (by rw [val_take_succ', HD.out])
      case measure => simp [intOf]; omega
    · obtain rfl : k = n := by omega
      have hv : val zk + Bs (digs x).length * carry = x * s + c0 := by
        have h1 := HV.out
        rw [val_take_all (by rw [HZL.out]; exact Nat.le_refl _), val_take_all (by rw [HN.out]; exact Nat.le_refl _), val_digs] at h1
        rw [← HN.out]; exact h1
      have hf := HFIN.out carry zk (by rw [HZL.out, HN.out]) hgr.okD hcar hv
      have HF := Lib.hid hf
      have hzl9 : zk.length ≤ 1000000 := by rw [HZL.out]; exact hn9
      clear hv hf
      rcases Nat.eq_zero_or_pos carry with rfl | hc
      · go_wp2_with fail
        go_ret
        exact ⟨A, _, c, rfl, by rw [← HF.out.1 (by trivial)]; exact hgr, hbr⟩
      · have hcm : (carry : Int) % 4294967296 = (carry : Int) := by omega
        have hcp : (0 : Int) < (carry : Int) := by omega
        have hlit := (own_lit wr #[.int .u32 (carry : Int)] [carry] rfl).raw_all (okD_cons.2 ⟨hcar, okD_nil⟩) (by simp) 1 1 rfl (Nat.le_refl _)
        have hBr : B ≤ wr.heap.size := Nat.le_trans hB hbr.size
        go_wp2_with (at_builtin; refine wpList_append_digs rfl _ _ _ _ rfl Tryd.underlying23 Tryd.underlying23 B rfl (grow_alloc hgr _) rfl hlit (by simp; omega) (by simp; omega) ?_; intro v4 w4 hg4 hgr4 hb4)
        have hb5 := hbr.trans (((Below.refl B wr).alloc hBr (.cells #[.int .u32 (carry : Int)] 103)).trans hb4)
        rw [HF.out.2 hc] at hg4
        obtain ⟨A4, c4, rfl⟩ := hg4.form
        go_wp2_with fail
        go_ret
        exact ⟨A4, _, c4, rfl, hg4, hb5⟩
end Go.Proofs.YtacfdcfkfjildaaDoor
