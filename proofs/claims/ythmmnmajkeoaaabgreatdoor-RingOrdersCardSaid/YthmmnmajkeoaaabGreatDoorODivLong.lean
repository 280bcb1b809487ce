/-
  The contract of divideLong.
-/
import Derived.Test.YthmmnmajkeoaaabGreatDoorOK4
import Derived.Test.YthmmnmajkeoaaabGreatDoorOShelf
import Derived.Laws.CopyRow
import Derived.Laws.CopyOwn
import Derived.LoopN
import Derived.WalkMore
import Derived.Deep.LoopGhost
namespace Go.Proofs.YthmmnmajkeoaaabGreatDoor
open Go.RowKit

theorem lz_any (t : Nat) (h0 : 0 < t) (h1 : t < 4294967296) (w : World) :
    Calls Tryz.prog 131 #[.int .u32 (t : Int)] w fun e w' => ∃ s : Nat, e = .returned (.int .i64 (s : Int)) ∧ s < 32 ∧ 2147483648 ≤ t * 2 ^ s ∧ (t + 1) * 2 ^ s ≤ 4294967296 ∧ w = w' := by
  refine (Tryz.bits_LeadingZeros32 (t : Int) w (by omega) (by omega)).mono ?_
  rintro e w' ⟨rfl, rfl⟩
  obtain ⟨a1, a2, a3⟩ := Lib.bitLenAux_bounds 64 t (by omega) (by omega)
  have e1 : Lib.bitLen ((t : Int).toNat) = Lib.bitLenAux 64 t := by rw [Int.toNat_natCast]; rfl
  rw [e1]
  generalize Lib.bitLenAux 64 t = b at *
  have hb : b ≤ 32 := by
    rcases Nat.lt_or_ge 32 b with h | h
    · have : 2 ^ 32 ≤ 2 ^ (b - 1) := Nat.pow_le_pow_right (by omega) (by omega)
      omega
    · exact h
  refine ⟨32 - b, ret_i64' (by omega), by omega, ?_, ?_, rfl⟩
  · have : 2 ^ (b - 1) * 2 ^ (32 - b) = 2147483648 := by rw [← Nat.pow_add, show b - 1 + (32 - b) = 31 by omega]
    have h := Nat.mul_le_mul_right (2 ^ (32 - b)) a2
    omega
  · have : 2 ^ b * 2 ^ (32 - b) = 4294967296 := by rw [← Nat.pow_add, show b + (32 - b) = 32 by omega]
    have h := Nat.mul_le_mul_right (2 ^ (32 - b)) (show t + 1 ≤ 2 ^ b from a3)
    omega

theorem run_copy_digs {w : World} {g n c L C : Nat} {A : Option Addr} {zs ps : List Nat} (ty : TypeId) (hz : Own w g zs) (hp : Raw w (.slice A n c) ps) (hn : n ≤ L) (hL : L ≤ zs.length) (h0 : 0 < n) :
    ∃ w', (Builtin.copy_ #[59, 59] ty #[.slice (some ⟨g, 0, none⟩) L C, .slice A n c]).run Tryz.prog w = .ok (goInt n) w' ∧ Own w' g (ps ++ zs.drop n) ∧ w.grownBy w' (some g) := by
  obtain ⟨ex, hg⟩ := hz
  have hnl := hp.cap.1
  obtain ⟨ad, rfl, _, _⟩ := hp.at_ (j := 0) (by omega)
  have hs : (Tryz.prog.info? 149).map (·.size) = some 1 := by kernel_rfl
  have hlen : (ps.map dv).length = n := by rw [List.length_map]; exact hnl.symm
  have hr := run_copy_row (P := Tryz.prog) w 59 59 ty 149 g 0 L C ad n c _ _ (ps.map dv) Tryz.underlying59 hs hg (by rw [hlen]; exact (Nat.min_eq_left hn).symm)
    (fun j v hj => by
      rcases Nat.lt_or_ge j ps.length with hlt | hge
      · obtain ⟨ad', e1, _, e3⟩ := hp.at_ hlt
        obtain rfl : ad = ad' := Option.some.inj e1
        rw [e3, ← hj, List.getElem?_map, List.getElem?_eq_getElem hlt, List.getD_eq_getElem?_getD, List.getElem?_eq_getElem hlt]; rfl
      · rw [List.getElem?_map, List.getElem?_eq_none hge] at hj; cases hj)
    (by rw [hlen]; simp; omega) (fun v hv => by obtain ⟨d, _, rfl⟩ := List.mem_map.1 hv; rfl)
  rw [hlen] at hr
  refine ⟨_, hr, ⟨ex, ?_⟩, ⟨rfl, rfl, rfl, by simp [World.setRow], fun i _ hne => setRow_other w g i _ (by rintro rfl; exact hne rfl)⟩⟩
  rw [setRow_heap w g _ _ _ _ hg]
  have hl : List.take 0 (List.map dv zs ++ ex).toArray.toList ++ List.map dv ps ++ List.drop (0 + n) (List.map dv zs ++ ex).toArray.toList = List.map dv (ps ++ zs.drop n) ++ ex := by
    have h2 := List.drop_append_of_le_length (l₁ := List.map dv zs) (l₂ := ex) (i := n) (by rw [List.length_map]; omega)
    rw [List.take_zero, List.nil_append, Nat.zero_add, h2, List.map_append, List.map_drop, List.append_assoc]
  rw [hl]

theorem raw_set {w : World} {A : Option Addr} {n c g j : Nat} {ds : List Nat} (u : Value) (h : Raw w (.slice A n c) ds) (hne : ∀ ad, A = some ad → ad.block ≠ g) : Raw (w.setCell ⟨g, j, none⟩ u) (.slice A n c) ds :=
  h.keepBut (only_set (World.grownBy.refl w _) j u) (fun _ A' n' c' hv ad hA => by
    injection hv with h1
    subst h1
    exact hne ad hA)
theorem getD_set_self {l : List Nat} {i : Nat} (h : i < l.length) (v : Nat) : (l.set i v).getD i 0 = v := by
  rw [List.getD_eq_getElem?_getD, List.getElem?_set_self h]; rfl

/-- The highest digit of a number in normal form. -/
theorem top_pos {x k : Nat} (h : (digs x).length = k + 1) : 0 < (digs x).getD k 0 := by
  have h1 := nrm_digs x
  unfold Nrm at h1
  rw [List.getLast?_eq_getElem?, h, Nat.add_sub_cancel] at h1
  rcases Nat.eq_zero_or_pos ((digs x).getD k 0) with h0 | h0
  · rw [List.getD_eq_getElem?_getD, List.getElem?_eq_getElem (by omega)] at h0
    rw [List.getElem?_eq_getElem (by omega : k < (digs x).length)] at h1
    simp only [Option.getD_some] at h0
    rw [h0] at h1
    exact absurd rfl h1
  · exact h0
theorem top_bounds {x k : Nat} (h : (digs x).length = k + 1) : (digs x).getD k 0 * Bs k ≤ x ∧ x < ((digs x).getD k 0 + 1) * Bs k := by
  have h1 := val_take_succ (digs x) k (by omega)
  rw [val_take_all (by omega), val_digs] at h1
  have h2 := val_take_lt (okD_digs x) k
  have h3 : ((digs x).getD k 0 + 1) * Bs k = Bs k * (digs x).getD k 0 + Bs k := by rw [Nat.mul_comm, Nat.mul_add, Nat.mul_one]
  have h4 : (digs x).getD k 0 * Bs k = Bs k * (digs x).getD k 0 := Nat.mul_comm _ _
  omega

set_option maxRecDepth 100000 in
set_option maxHeartbeats 1600000 in
theorem divlong_any {A A' : Option Addr} {la c n' c' x y m r : Nat} {w : World} (hx : Num w (.slice A la c) x) (hy : Num w (.slice A' n' c') y) (hn' : n' = m + 2) (hla : la = m + 2 + r) (hb9 : la ≤ 1000000) :
    Calls Tryz.prog 130 #[.slice A la c, .slice A' n' c'] w fun e w' => ∃ B k d B' k' d', e = .returned (.tuple #[.slice B k d, .slice B' k' d']) ∧ Num w' (.slice B k d) (x / y) ∧ Num w' (.slice B' k' d') (x % y) ∧ Below w.heap.size w w' := by
  subst hn'
  subst hla
  have hyl : (digs y).length = m + 1 + 1 := (Raw.cap hy).1.symm
  have hxl : (digs x).length = m + 2 + r := (Raw.cap hx).1.symm
  obtain ⟨t, ht⟩ : ∃ t, (digs y).getD (m + 1) 0 = t := ⟨_, rfl⟩
  have ht0 := top_pos hyl
  have ht1 := okD_getD (okD_digs y) (m + 1)
  obtain ⟨tb1, tb2⟩ := top_bounds hyl
  obtain ⟨ae, hE, hb1, k1⟩ := Raw.at_ hy (j := m + 1) (by omega)
  subst hE
  rw [ht] at ht0 ht1 tb1 tb2 k1
  have k1' : w.cell? ⟨ae.block, ae.off + (m + 1), none⟩ = some (.int .u32 (t : Int)) := by rw [← k1]; congr 1
  have HT := Lib.hid ht
  have HYL := Lib.hid hyl
  have HXL := Lib.hid hxl
  have TB1 := Lib.hid tb1
  have TB2 := Lib.hid tb2
  clear ht hyl hxl tb1 tb2 k1
  go_enter Tryz.func130, Tryz.ntmps130
  go_wp2_with fail
  go_step3
  go_wp2_with fail
  refine (lz_any t ht0 ht1 w).mono ?_
  rintro e w' ⟨s, rfl, hs, hs1, hs2, rfl⟩
  have HS1 := Lib.hid hs1
  have HS2 := Lib.hid hs2
  clear hs1 hs2 k1'
  go_wp2_with fail
  refine (shl_is hy (Lib.hid (val_digs y)) s (by omega) (by rw [HYL.out]; omega)).mono ?_
  rintro e w1 ⟨B1, md, d1, rfl, hD, hb1'⟩
  obtain ⟨D, hDe⟩ : ∃ D, y * 2 ^ s = D := ⟨_, rfl⟩
  rw [hDe] at hD
  have hDb := shifted_bounds TB1.out TB2.out HS1.out HS2.out
  rw [hDe] at hDb
  have HDB := Lib.hid hDb
  have HDE := Lib.hid hDe
  clear hDb hDe
  have hDl : (digs D).length = m + 2 := by
    have h1 := digs_length_le HDB.out.2
    have h2 : ¬ (digs D).length ≤ m + 1 := fun h => by
      have h3 := lt_of_digs_length h
      have h4 := HDB.out.1
      omega
    omega
  have hmd : md = m + 2 := (Raw.cap hD).1.trans hDl
  subst hmd
  have hx1 := Num.below hx hb1'
  obtain ⟨w2, hmk, hown, hb2, hsz2⟩ := make_row Tryz.underlying59 (m + 2 + r + 1) (by omega) w1
  have hmk' := hmk
  rw [show ((m + 2 + r + 1 : Nat) : Int) = (m : Int) + 2 + (r : Int) + 1 by omega] at hmk'
  have HDL := Lib.hid hDl
  have HSZ2 := Lib.hid hsz2
  have HMK := Lib.hid hmk
  clear hmk hDl hsz2
  go_wp2_with fail
  refine (shl_is (Num.below hx1 hb2) (Lib.hid (val_digs x)) s (by omega) (by rw [HXL.out]; omega)).mono ?_
  rintro e w3 ⟨B3, lx, d3, rfl, hX, hb3⟩
  obtain ⟨X, hXe⟩ : ∃ X, x * 2 ^ s = X := ⟨_, rfl⟩
  rw [hXe] at hX
  have hXs := start_small (x := x) (s := s) (m := m) (r := r) (D := D) (lt_of_digs_length (by rw [HXL.out]; exact Nat.le_refl _)) (pow_le31 hs) HDB.out.1
  rw [hXe] at hXs
  have hx0 : 0 < x := by
    rcases Nat.eq_zero_or_pos x with h | h
    · have := HXL.out
      rw [h, digs_zero] at this
      simp at this
      omega
    · exact h
  have hX0 : 0 < X := by rw [← hXe]; exact Nat.mul_pos hx0 (Nat.pow_pos (by omega))
  have hlx : lx = (digs X).length := (Raw.cap hX).1
  have hlx0 : 0 < lx := by rw [hlx]; exact digs_length_pos hX0
  have hlxL : lx ≤ m + 2 + r + 1 := by
    rw [hlx]
    refine digs_length_le ?_
    rw [← hXe]
    have h1 := lt_of_digs_length (Nat.le_of_eq HXL.out)
    have h2 := pow_le31 hs
    have h3 : x * 2 ^ s ≤ Bs (m + 2 + r) * 2147483648 := Nat.mul_le_mul (by omega) h2
    rw [Bs_succ]
    have h4 := Bs_pos (m + 2 + r)
    omega
  have hgr2 : w1.heap.size < w2.heap.size := by have := HSZ2.out; omega
  have hown3 := hown.below hb3 hgr2
  obtain ⟨w4, hcp, hown4, hg4⟩ := run_copy_digs (L := m + 2 + r + 1) (C := m + 2 + r + 1) 3 hown3 hX hlxL (by simp) hlx0
  have hz0 : val (digs X ++ (List.replicate (m + 2 + r + 1) 0).drop lx) = X := by
    rw [val_append, List.drop_replicate, val_replicate, val_digs]; omega
  have hz0l : (digs X ++ (List.replicate (m + 2 + r + 1) 0).drop lx).length = m + 2 + r + 1 := by
    rw [List.length_append, List.length_drop, List.length_replicate, ← hlx]; omega
  have hz0d : OkD (digs X ++ (List.replicate (m + 2 + r + 1) 0).drop lx) := okD_append.2 ⟨okD_digs X, okD_drop (okD_replicate _ (by omega)) _⟩
  obtain ⟨zs0, hzs0⟩ : ∃ zs0, digs X ++ (List.replicate (m + 2 + r + 1) 0).drop lx = zs0 := ⟨_, rfl⟩
  rw [hzs0] at hz0 hz0l hz0d hown4
  have HXE := Lib.hid hXe
  have HXS := Lib.hid hXs
  have HZ0 := Lib.hid hz0
  have HZ0L := Lib.hid hz0l
  clear hzs0 hXe hXs hz0 hz0l hlx
  obtain ⟨w5, hmk5, hown5, hb5, hsz5⟩ := make_row Tryz.underlying59 (r + 1) (by omega) w4
  rw [Int.natCast_add, Int.natCast_one] at hmk5
  have hsub : (m : Int) + 2 + (r : Int) - ((m : Int) + 2) = (r : Int) := by omega
  have HSZ5 := Lib.hid hsz5
  clear hsz5
  have hgg : w1.heap.size < w4.heap.size := Nat.lt_of_lt_of_le hgr2 (Nat.le_trans hb3.size hg4.size)
  have hD5 : Raw w5 (.slice B1 (m + 2) d1) (digs D) := by
    have h2 := Num.below hD hb2
    have h3 := Num.below h2 hb3
    have h4 := Raw.keepBut h3 hg4 (fun h0 A n c hv ad hA => by
      injection hv with hv1
      subst hv1
      exact Nat.ne_of_lt (Raw.block hD h0 ad hA))
    exact h4.below hb5
  have hB1 : ∀ ad, B1 = some ad → ad.block < w1.heap.size := fun ad hA => Raw.block hD (by rw [HDL.out]; omega) ad hA
  have HB1 := Lib.hid hB1
  clear hB1
  have hbelow5 : Below w.heap.size w w5 := by
    have h2 := hb1'.trans (hb2.mono hb1'.size)
    have h3 := h2.trans (hb3.mono h2.size)
    have h4 := h3.grown hg4 h3.size (by rintro k hk; injection hk with hk; have := hb1'.size; omega)
    exact h4.trans (hb5.mono h4.size)
  have hgr5 := (hown4.below hb5 hgg)
  go_wp2_with fail
  go_step3
  go_wp2_with fail
  have hDp : 0 < D := by have := HDB.out.1; have := Bs_pos (m + 1); omega
  have hst : ∃ qs zs : List Nat, zs.length = m + 2 + r + 1 ∧ OkD zs ∧ qs.length = r + 1 ∧ OkD qs ∧ Own w5 w1.heap.size zs ∧ Own w5 w4.heap.size qs ∧ Raw w5 (.slice B1 (m + 2) d1) (digs D) ∧ Below w.heap.size w w5 ∧
      X = Bs (r + 1) * (D * val (qs.drop (r + 1))) + val zs ∧ val zs < Bs (r + 1) * D :=
    ⟨List.replicate (r + 1) 0, zs0, HZ0L.out, hz0d, by simp, okD_replicate _ (by omega), hgr5, hown5, hD5, hbelow5, by rw [List.drop_eq_nil_of_le (by simp), HZ0.out]; simp [val], by rw [HZ0.out]; exact HXS.out⟩
  have HST := Lib.hid hst
  clear hst hgr5 hown5 hD5 hbelow5 hown4 hg4 hb5 hz0d hown3 hX hb3 hb2 hx1 hx hy hD hown hmk' hmk5 hcp hsub
  go_loopg [11] (r + 1) (fun k i wx => ∃ qs zs : List Nat, i = .int .i64 ((k : Int) - 1) ∧ k ≤ r + 1 ∧ zs.length = m + 2 + r + 1 ∧ OkD zs ∧ qs.length = r + 1 ∧ OkD qs ∧ Own wx w1.heap.size zs ∧ Own wx w4.heap.size qs ∧ Raw wx (.slice B1 (m + 2) d1) (digs D) ∧ Below w.heap.size w wx ∧
      X = Bs k * (D * val (qs.drop k)) + val zs ∧ val zs < Bs k * D)
  case atStart =>
    obtain ⟨qs, zs, h⟩ := HST.out
    exact ⟨qs, zs, by congr 1; omega, Nat.le_refl _, h⟩
  case round =>
    obtain ⟨qs, zs, rfl, hk, hzl, hzd, hql, hqd, hzo, hqo, hDr, hbr, hinv, hsm⟩ := hrel
    have HINV := Lib.hid hinv
    have HSM := Lib.hid hsm
    have HZL := Lib.hid hzl
    have HQL := Lib.hid hql
    clear hinv hsm hzl hql
    cases gk with
    | zero =>
      have hqraw := hqo.raw_all hqd (by rw [HQL.out]; omega) (r + 1) (r + 1) HQL.out.symm (Nat.le_refl _)
      have hzraw := hzo.raw_all hzd (by rw [HZL.out]; omega) (m + 2 + r + 1) (m + 2 + r + 1) HZL.out.symm (Nat.le_refl _)
      have hfd : val qs = x / y ∧ val zs / 2 ^ s = x % y := by
        have h1 := HINV.out
        have h2 := HSM.out
        rw [Bs_zero, Nat.one_mul, List.drop_zero, ← HXE.out, ← HDE.out] at h1
        rw [Bs_zero, Nat.one_mul, ← HDE.out] at h2
        exact final_div (Nat.pow_pos (by omega)) h1 h2
      have HF1 := Lib.hid hfd.1
      have HF2 := Lib.hid hfd.2
      clear hfd hqo hzo hDr
      have e0 : ((0 : Nat) : Int) - 1 = -1 := by omega
      rw [e0]
      clear e0
      go_wp2_with fail
      refine (trim_is hqraw HF1).mono ?_
      rintro e w6 ⟨rfl, hQ, rfl⟩
      go_wp2_with fail
      refine (shr_is hzraw (Lib.hid rfl) s (by omega)).mono ?_
      rintro e w7 ⟨B7, k7, d7, rfl, hR, hb7⟩
      rw [HF2.out] at hR
      have hQ7 := Num.below hQ hb7
      have hbf := hbr.trans (hb7.mono hbr.size)
      go_wp2_with fail
      try rw [Exit.noGoto_ret]
      go_ret2
      exact ⟨_, _, _, _, _, _, rfl, hQ7, hR, hbf⟩
    | succ j =>
      have ei : ((j + 1 : Nat) : Int) - 1 = (j : Int) := by omega
      rw [ei]
      clear ei
      have hjl : j + (m + 2) + 1 ≤ zs.length := by rw [HZL.out]; omega
      have hzl9 : zs.length ≤ 1000000000 := by rw [HZL.out]; omega
      obtain ⟨hup, hsplit, hPD⟩ := round_part (n := m + 2) hjl HDB.out.2 HSM.out
      have hpart := hzo.raw hzd hzl9 j (m + 2 + 1) (m + 2 + r + 1 - j) (by omega) (by omega)
      have htop : 0 < (digs D).getD (m + 1) 0 := top_pos HDL.out
      have hln : j + (m + 2) + 1 - j = m + 2 + 1 := by omega
      obtain ⟨P, hP⟩ : ∃ P, val ((zs.drop j).take (m + 2 + 1)) = P := ⟨_, rfl⟩
      have hest := estimate_any hpart hDr rfl rfl htop (by rw [hP, val_digs]; rw [hP] at hPD; exact hPD)
      rw [hP] at hsplit hPD hest
      rw [val_digs] at hest
      have HEST := Lib.hid hest
      have HUP := Lib.hid hup
      have HSPLIT := Lib.hid hsplit
      have HPD := Lib.hid hPD
      have HP := Lib.hid hP
      have HLN := Lib.hid hln
      clear hest hup hsplit hPD hP hln htop hpart
      have hjq : j < qs.length := by rw [HQL.out]; omega
      have hqc := hqo.cell hjq
      have hqf := hqo.frozen j
      go_wp2_with fail
      rw [HLN.out]
      refine HEST.out.mono ?_
      rintro e w6 ⟨q, rfl, hqB, hQ1, hQ2, jj, rfl⟩
      have hqo6 := (hqo.drewN jj).set j q
      have hzo6 := (hzo.drewN jj).far (p := ⟨w4.heap.size, j, none⟩) (Nat.ne_of_lt hgg) (.int .u32 (q : Int))
      have hDr6 := raw_set (g := w4.heap.size) (j := j) (.int .u32 (q : Int)) (hDr.drewN jj) (fun ad hA => Nat.ne_of_lt (Nat.lt_trans (HB1.out ad hA) hgg))
      have hbr6 := (below_drewN hbr jj).setCell (p := ⟨w4.heap.size, j, none⟩) (by have := hb1'.size; show _ ≤ w4.heap.size; omega) (.int .u32 (q : Int))
      have hqc6 := hqo6.cell (j := j) (by rw [List.length_set]; exact hjq)
      rw [getD_set_self hjq] at hqc6
      have hsub := submul_any q hqB hzo6 hzd hzl9 hDr6 (fun _ ad hA => Nat.ne_of_lt (HB1.out ad hA)) hjl (c := m + 2 + r + 1 - j) (by omega)
      have HSUB := Lib.hid hsub
      clear hsub
      go_wp2_with fail
      refine HSUB.out.mono ?_
      rintro e w7 ⟨nb, zs', rfl, hnb, hzo7, hzd7, hzl7, hg7, htk7, hdr7, hval7⟩
      have hqo7 := hqo6.grown hg7 (by intro h; injection h with h; omega)
      have hDr7 := hDr6.keepBut hg7 (fun _ A n c hv ad hA => by
        injection hv with hv1
        subst hv1
        exact Nat.ne_of_lt (HB1.out ad hA))
      have hbr7 := hbr6.grown hg7 hbr6.size (by rintro k hk; injection hk with hk; have := hb1'.size; omega)
      have hpe := part_eq hjl (by rw [hzl7]; exact hjl) htk7 HP.out (by rw [val_digs] at hval7; exact hval7)
      have hup7 : val (zs'.drop (j + (m + 2) + 1)) = 0 := by rw [hdr7]; exact HUP.out
      have hwh := whole_eq (n := m + 2) (by rw [hzl7]; exact hjl) hup7
      have hTj : val (zs.take j) < Bs j := val_take_lt hzd j
      have HPE := Lib.hid hpe
      have HWH := Lib.hid hwh
      have HTJ := Lib.hid hTj
      have HTK7 := Lib.hid htk7
      have HDR7 := Lib.hid hdr7
      have HZL7 := Lib.hid hzl7
      have HUP7 := Lib.hid hup7
      clear hpe hwh hTj htk7 hdr7 hzl7 hup7 hval7
      rcases (by omega : nb = 0 ∨ nb = 1) with rfl | rfl
      · have hfin : ∃ qs2 zs2 : List Nat, j ≤ r + 1 ∧ zs2.length = m + 2 + r + 1 ∧ OkD zs2 ∧ qs2.length = r + 1 ∧ OkD qs2 ∧ Own w7 w1.heap.size zs2 ∧ Own w7 w4.heap.size qs2 ∧ Raw w7 (.slice B1 (m + 2) d1) (digs D) ∧ Below w.heap.size w w7 ∧
            X = Bs j * (D * val (qs2.drop j)) + val zs2 ∧ val zs2 < Bs j * D := by
          have h1 := HPE.out
          rw [Nat.mul_zero, Nat.add_zero] at h1
          obtain ⟨e1, e2⟩ := round_right hQ1 hDp h1
          have e3 := HWH.out
          rw [HTK7.out, e2] at e3
          obtain ⟨f1, f2⟩ := round_done (qf := qs.set j q) HINV.out HSPLIT.out HTJ.out hDp (by rw [set_drop hjq, e1])
          exact ⟨qs.set j q, zs', by omega, by rw [HZL7.out]; exact HZL.out, hzd7, by rw [List.length_set]; exact HQL.out, okD_set hqd j hqB, hzo7, hqo7, hDr7, hbr7, by rw [e3]; exact f1, by rw [e3]; exact f2⟩
        have HFIN := Lib.hid hfin
        clear hfin hzo7 hqo7 hDr7 hbr7 hg7 hqo6 hzo6 hDr6 hbr6 hqc6 hqo hzo hDr hbr hqc hqf
        have hb01 : ((0 : Nat) == 1) = false := rfl
        rw [hb01]
        go_wp2_with fail
        refine wp_loop_rounds 1 ?_
        rw [rounds_succ]
        go_wp2_with fail
        go_roundg j
        case measure => omega
        case rel =>
          obtain ⟨qs2, zs2, h⟩ := HFIN.out
          exact ⟨qs2, zs2, rfl, h⟩
      · have h1 := HPE.out
        rw [Nat.mul_one] at h1
        have hP'b : val ((zs'.drop j).take (m + 2 + 1)) < 4294967296 * Bs (m + 2) := by rw [← Bs_succ]; exact val_take_lt (okD_drop hzd7 j) _
        obtain ⟨e1, e2⟩ := round_wrong hQ2 hP'b h1
        have hq1 : 1 ≤ q := by rw [e1]; exact Nat.le_add_left 1 _
        have HE1 := Lib.hid e1
        have HE2 := Lib.hid e2
        clear h1 e1 e2 hP'b hg7 hzo6 hDr6 hbr6 hqc6 hqo6 hqo hzo hDr hbr hqc hqf
        have hqc7 := hqo7.cell (j := j) (by rw [List.length_set]; exact hjq)
        rw [getD_set_self hjq] at hqc7
        have hqf7 := hqo7.frozen j
        have hqi : (q : Int) - 1 = ((q - 1 : Nat) : Int) := by omega
        have hqo8 := hqo7.set j (q - 1)
        have hzo8 := hzo7.far (p := ⟨w4.heap.size, j, none⟩) (Nat.ne_of_lt hgg) (.int .u32 ((q - 1 : Nat) : Int))
        have hDr8 := raw_set (g := w4.heap.size) (j := j) (.int .u32 ((q - 1 : Nat) : Int)) hDr7 (fun ad hA => Nat.ne_of_lt (Nat.lt_trans (HB1.out ad hA) hgg))
        have hbr8 := hbr7.setCell (p := ⟨w4.heap.size, j, none⟩) (by have := hb1'.size; show _ ≤ w4.heap.size; omega) (.int .u32 ((q - 1 : Nat) : Int))
        have hadd := addmul_any (o := j) (n := m + 2) (c := m + 2 + r + 1 - j) 1 (by omega) hzo8 hzd7 (by rw [HZL7.out]; exact hzl9) hDr8 (fun _ ad hA => Nat.ne_of_lt (HB1.out ad hA)) (by rw [HZL7.out]; omega) (by omega)
        have HADD := Lib.hid hadd
        clear hadd hzo7 hqo7 hDr7 hbr7
        have hb11 : ((1 : Nat) == 1) = true := rfl
        rw [hb11]
        go_wp2_with fail
        refine wp_loop_rounds 2 ?_
        rw [rounds_succ]
        go_wp2_with fail
        refine HADD.out.mono ?_
        rintro e w9 ⟨carry, zs2, rfl, hcar, hzo9, hzd9, hzl9', hg9, htk9, hdr9, hval9⟩
        rw [val_digs] at hval9
        obtain ⟨g1, g2, g3⟩ := back_eq (n := m + 2) (r := P % D) hzd7 hzd9 (by rw [HZL7.out]; exact hjl) hzl9' htk9 rfl hval9 (Nat.mod_lt _ hDp) HDB.out.2 HE2.out
        subst g1
        have hpc : zs2.getD (j + (m + 2)) 0 = 4294967295 := by rw [← g2]; exact getD_of_drop hdr9
        have hzlen : zs2.length = m + 2 + r + 1 := by rw [hzl9', HZL7.out]; exact HZL.out
        have hcell9 := hzo9.cell (j := j + (m + 2)) (by rw [hzlen]; omega)
        rw [hpc] at hcell9
        have hfr9 := hzo9.frozen (j + (m + 2))
        have hzo10 := hzo9.set (j + (m + 2)) 0
        have hcell10 := hzo10.cell (j := j + (m + 2)) (by rw [List.length_set, hzlen]; omega)
        rw [getD_set_self (by rw [hzlen]; omega)] at hcell10
        have hqo9 := hqo8.grown hg9 (by intro h; injection h with h; omega)
        have hqo10 := hqo9.far (p := ⟨w1.heap.size, j + (m + 2), none⟩) (Nat.ne_of_gt hgg) (.int .u32 ((0 : Nat) : Int))
        have hDr9 := hDr8.keepBut hg9 (fun _ A n c hv ad hA => by
          injection hv with hv1
          subst hv1
          exact Nat.ne_of_lt (HB1.out ad hA))
        have hDr10 := raw_set (g := w1.heap.size) (j := j + (m + 2)) (.int .u32 ((0 : Nat) : Int)) hDr9 (fun ad hA => Nat.ne_of_lt (HB1.out ad hA))
        have hbr9 := hbr8.grown hg9 hbr8.size (by rintro k hk; injection hk with hk; have := hb1'.size; omega)
        have hbr10 := hbr9.setCell (p := ⟨w1.heap.size, j + (m + 2), none⟩) (by exact hb1'.size) (.int .u32 ((0 : Nat) : Int))
        have hfin : ∃ qs2 zs3 : List Nat, j ≤ r + 1 ∧ zs3.length = m + 2 + r + 1 ∧ OkD zs3 ∧ qs2.length = r + 1 ∧ OkD qs2 ∧ Own (w9.setCell ⟨w1.heap.size, j + (m + 2), none⟩ (.int .u32 ((0 : Nat) : Int))) w1.heap.size zs3 ∧ Own (w9.setCell ⟨w1.heap.size, j + (m + 2), none⟩ (.int .u32 ((0 : Nat) : Int))) w4.heap.size qs2 ∧ Raw (w9.setCell ⟨w1.heap.size, j + (m + 2), none⟩ (.int .u32 ((0 : Nat) : Int))) (.slice B1 (m + 2) d1) (digs D) ∧ Below w.heap.size w (w9.setCell ⟨w1.heap.size, j + (m + 2), none⟩ (.int .u32 ((0 : Nat) : Int))) ∧
            X = Bs j * (D * val (qs2.drop j)) + val zs3 ∧ val zs3 < Bs j * D := by
          have hv : val (zs2.set (j + (m + 2)) 0) = val (zs.take j) + Bs j * (P % D) := by
            have u1 := val_take_drop (zs2.set (j + (m + 2)) 0) (j + (m + 2) + 1) (by rw [List.length_set, hzlen]; omega)
            have u2 : (zs2.set (j + (m + 2)) 0).drop (j + (m + 2) + 1) = zs'.drop (j + (m + 2) + 1) := by
              rw [List.drop_set_of_lt (by omega), ← List.drop_drop, hdr9, List.drop_drop]
            rw [u2, HUP7.out, val_take_set (by rw [hzlen]; omega), g3, htk9, HTK7.out, Nat.mul_zero, Nat.mul_zero, Nat.add_zero, Nat.add_zero] at u1
            exact u1
          have hqq : q - 1 = P / D := by rw [HE1.out, Nat.add_sub_cancel]
          obtain ⟨f1, f2⟩ := round_done (qf := (qs.set j q).set j (q - 1)) HINV.out HSPLIT.out HTJ.out hDp (by rw [set_drop (by rw [List.length_set]; exact hjq), List.drop_set_of_lt (by omega), hqq])
          exact ⟨(qs.set j q).set j (q - 1), zs2.set (j + (m + 2)) 0, by omega, by rw [List.length_set]; exact hzlen, okD_set hzd9 _ (by omega), by rw [List.length_set, List.length_set]; exact HQL.out, okD_set (okD_set hqd j hqB) j (by omega), hzo10, hqo10, hDr10, hbr10, by rw [hv]; exact f1, by rw [hv]; exact f2⟩
        have HFIN := Lib.hid hfin
        clear hfin hzo9 hzo10 hqo8 hqo9 hqo10 hDr8 hDr9 hDr10 hbr8 hbr9 hbr10 hg9 htk9 hdr9 hval9 hzl9' g2 g3 hpc hqi hqc7
        go_wp2_with fail
        rw [rounds_succ]
        go_wp2_with fail
        go_roundg j
        case measure => omega
        case rel =>
          obtain ⟨qs2, zs3, h⟩ := HFIN.out
          exact ⟨qs2, zs3, rfl, h⟩
end Go.Proofs.YthmmnmajkeoaaabGreatDoor
