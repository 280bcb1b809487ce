/-
  What one statement needs beside.
-/
import Derived.Test.YtfdlkbbepkghmaaGreatDoorVLaidS
import Derived.Test.YtfdlkbbepkghmaaGreatDoorVSpW
namespace Go.Proofs.YtfdlkbbepkghmaaGreatDoor
open List (getElem_toArray getElem_cons_succ getElem_cons_zero setIfInBounds_toArray set_cons_zero set_cons_succ)
open Go.RowKit
set_option maxRecDepth 100000 in
/-- N: the canonical digits, in memory of their own. -/
theorem n_is {A : Option Addr} {n c x : Nat} {ds : List Nat} {w : World} (hx : Raw w (.slice A n c) ds) (hvx : Hid (val ds = x)) :
    Calls Tryz.prog 58 #[.slice A n c] w fun e w' => ∃ B k d, e = .returned (.slice B k d) ∧ Num w' (.slice B k d) x ∧ Below w.heap.size w w' := by
  have hl := Raw.len hx
  go_enter Tryz.func58, Tryz.ntmps58
  go_wp2_with (at_builtin; refine wpList_append_digs rfl _ _ _ _ rfl Tryz.underlying23 Tryz.underlying24 w.heap.size rfl (grow_empty w) rfl (raw_alloc hx _) (by simp) (by simpa using hl) ?_; intro v' w1 hg hgr hb)
  rw [List.nil_append] at hg
  have hb2 := (below_alloc w (.cells #[] 160)).trans hb
  obtain ⟨A1, c1, rfl⟩ := hg.form
  have hr := hg.raw hl
  go_wp2_with fail
  refine (ntrim_is hr hvx).mono ?_
  rintro e w' ⟨rfl, hN, rfl⟩
  go_wp2_with fail
  go_ret
  exact ⟨_, _, _, rfl, hN, hb2⟩
end Go.Proofs.YtfdlkbbepkghmaaGreatDoor
namespace Go.Proofs.YtfdlkbbepkghmaaGreatDoor
open List (getElem_toArray getElem_cons_succ getElem_cons_zero setIfInBounds_toArray set_cons_zero set_cons_succ)
open Go.RowKit
set_option maxRecDepth 100000 in
set_option maxHeartbeats 800000 in
theorem add_any {A A' : Option Addr} {n n' c c' : Nat} {ds es : List Nat} {w : World} (hx : Raw w (.slice A n c) ds) (hy : Raw w (.slice A' n' c') es) (hdl : ds.length < 1000000000) (hel : es.length < 1000000000) :
    Calls Tryz.prog 175 #[.slice A n c, .slice A' n' c'] w fun e w' => ∃ B k d, e = .returned (.slice B k d) ∧ Num w' (.slice B k d) (val ds + val es) ∧ Below w.heap.size w w' := by
  have hxl : (digs (val ds)).length ≤ ds.length := digs_length_le (val_lt hx.okD)
  have hyl : (digs (val es)).length ≤ es.length := digs_length_le (val_lt hy.okD)
  obtain ⟨m, hm⟩ : ∃ m, m = max (digs (val ds)).length (digs (val es)).length := ⟨_, rfl⟩
  have hm1 : m < 1000000000 := by omega
  obtain ⟨w1, hmk, hown, hb, hsz⟩ := make_row Tryz.underlying24 (m + 1) (by omega) w
  have hmax : ∀ W : World, (Builtin.max_ #[3, 3] 3 #[.int .i64 ((digs (val ds)).length : Int), .int .i64 ((digs (val es)).length : Int)]).run Tryz.prog W = .ok (.int .i64 (m : Int)) W := fun W => by
    rw [run_max_int2]; subst hm; congr 2; split <;> omega
  rw [Int.natCast_add, Int.natCast_one] at hmk
  have HM := Lib.hid hm
  have HO := Lib.hid hown
  have HZ := Lib.hid hsz
  clear hm hown hsz
  go_enter Tryz.func175, Tryz.ntmps175
  go_wp2_with fail
  refine (trim_any hx).mono ?_
  rintro e w' ⟨rfl, hX, -, rfl⟩
  go_wp2_with fail
  refine (trim_any hy).mono ?_
  rintro e w' ⟨rfl, hY, -, rfl⟩
  go_wp2_with fail
  have HX := hX.below hb
  have HY := hY.below hb
  go_loopw [7, 22] (fun cr i wr => ∃ (k carry : Nat) (zs : List Nat), i = .int .i64 k ∧ cr = .int .u64 carry ∧ k ≤ m ∧ carry ≤ 1 ∧ zs.length = m + 1 ∧ OkD zs ∧ Own wr w.heap.size zs ∧ Below w.heap.size w wr ∧
      val (zs.take k) + Bs k * carry = val ((digs (val ds)).take k) + val ((digs (val es)).take k)) (fun _ i _ => m - (intOf i).toNat)
  case atStart => exact ⟨0, 0, _, rfl, rfl, Nat.zero_le _, by omega, by simp, okD_replicate _ (by omega), HO.out, hb, by simp [val]⟩
  case round =>
    obtain ⟨k, carry, zs, rfl, rfl, hk, hcar, hzl, hzd, hzo, hbr, hv⟩ := hrel
    have HV := Lib.hid hv
    have HZL := Lib.hid hzl
    clear hv hzl
    obtain ⟨dx, hdx⟩ : ∃ d, (digs (val ds)).getD k 0 = d := ⟨_, rfl⟩
    obtain ⟨dy, hdy⟩ : ∃ d, (digs (val es)).getD k 0 = d := ⟨_, rfl⟩
    have bx : dx < 4294967296 := by rw [← hdx]; exact okD_getD (okD_digs _) k
    have by_ : dy < 4294967296 := by rw [← hdy]; exact okD_getD (okD_digs _) k
    have HDX := Lib.hid hdx
    have HDY := Lib.hid hdy
    clear hdx hdy
    have hcell := hzo.cell (j := k) (by have := HZL.out; omega)
    have hfr := hzo.frozen k
    have hbk := hbr.size
    rcases Nat.lt_or_ge k m with hlt | hge
    · go_wp2_with fail
      refine (digit_is (hX.below hbr) HDX).mono ?_
      rintro e w' ⟨rfl, rfl⟩
      go_wp2_with fail
      refine (digit_is (hY.below hbr) HDY).mono ?_
      rintro e w' ⟨rfl, rfl⟩
      go_wp2_with fail
      go_roundw
      case rel =>
        have e1 : ((carry : Int) + ((dx : Int) + (dy : Int))) / 4294967296 = ((carry + (dx + dy)) / 4294967296 : Nat) := by omega
        have e2 : ((carry : Int) + ((dx : Int) + (dy : Int))) % 4294967296 = ((carry + (dx + dy)) % 4294967296 : Nat) := by omega
        rw [e1, e2]
        refine ⟨k + 1, _, _, by go_num, rfl, by omega, by omega, by rw [List.length_set]; exact HZL.out, okD_set hzd k (by omega), hzo.set k _, hbr.setCell (Nat.le_refl _) _, ?_⟩
        rw [Bs_succ, val_take_set (by have := HZL.out; omega), val_take_succ', val_take_succ', HDX.out, HDY.out]
        exact add_round HV.out
      case measure => simp [intOf]; omega
    · obtain rfl : m = k := by omega
      have hfin := hzo.set m carry
      have hraw := hfin.raw_all (okD_set hzd m (by omega)) (by rw [List.length_set, HZL.out]; omega) (m + 1) (m + 1) (by rw [List.length_set]; exact HZL.out.symm) (Nat.le_refl _)
      have hbf := hbr.setCell (p := ⟨w.heap.size, m, none⟩) (Nat.le_refl _) (.int .u32 (carry : Int))
      have hval : val (zs.set m carry) = val ds + val es := by
        have e := val_take_set (ds := zs) (k := m) (by have := HZL.out; omega) carry
        rw [val_take_all (by rw [List.length_set, HZL.out]; omega)] at e
        rw [e, HV.out, val_take_all (by rw [HM.out]; omega), val_take_all (by rw [HM.out]; omega), val_digs, val_digs]
      have HVAL := Lib.hid hval
      clear hval
      go_wp2_with fail
      refine (trim_any hraw).mono ?_
      rintro e w' ⟨rfl, hN, -, rfl⟩
      rw [HVAL.out] at hN
      go_wp2_with fail
      go_ret
      exact ⟨_, _, _, rfl, by rw [HVAL.out]; exact hN, hbf⟩
end Go.Proofs.YtfdlkbbepkghmaaGreatDoor
namespace Go.Proofs.YtfdlkbbepkghmaaGreatDoor
open List (getElem_toArray getElem_cons_succ getElem_cons_zero setIfInBounds_toArray set_cons_zero set_cons_succ)
open Go.RowKit
set_option maxRecDepth 100000 in
theorem sub_lt {A A' : Option Addr} {n n' c c' x y : Nat} {ds es : List Nat} {w : World} (hx : Raw w (.slice A n c) ds) (hy : Raw w (.slice A' n' c') es) (hvx : Hid (val ds = x)) (hvy : Hid (val es = y)) (h : x < y) :
    Calls Tryz.prog 176 #[.slice A n c, .slice A' n' c'] w fun e w' => e = .returned (.tuple #[.slice none 0 0, .bool false]) ∧ Below w.heap.size w w' := by
  have hc := cmp_is hx hy hvx hvy
  rw [cmpI_lt h] at hc
  have HC := Lib.hid hc
  clear hc h
  go_enter Tryz.func176, Tryz.ntmps176
  go_wp2_with fail
  refine HC.out.mono ?_
  rintro e w' ⟨rfl, j, rfl⟩
  go_wp2_with fail
  go_ret2
  exact ⟨rfl, below_drewN (Below.refl _ _) _⟩
set_option maxRecDepth 100000 in
theorem sub_ge {A A' : Option Addr} {n n' c c' x y : Nat} {ds es : List Nat} {w : World} (hx : Raw w (.slice A n c) ds) (hy : Raw w (.slice A' n' c') es) (hvx : Hid (val ds = x)) (hvy : Hid (val es = y)) (h : y ≤ x) :
    Calls Tryz.prog 176 #[.slice A n c, .slice A' n' c'] w fun e w' => ∃ B k d, e = .returned (.tuple #[.slice B k d, .bool true]) ∧ Num w' (.slice B k d) (x - y) ∧ Below w.heap.size w w' := by
  have hc := cmp_is hx hy hvx hvy
  have h0 : ∃ r : Int, cmpI x y = r ∧ 0 ≤ r := by
    rcases Nat.lt_or_ge y x with h1 | h1
    · exact ⟨1, cmpI_gt h1, by omega⟩
    · exact ⟨0, cmpI_eq (by omega), by omega⟩
  obtain ⟨r, hr, hr0⟩ := h0
  rw [hr] at hc
  have HC := Lib.hid hc
  have HH := Lib.hid h
  clear hc h hr
  go_enter Tryz.func176, Tryz.ntmps176
  go_wp2_with fail
  refine HC.out.mono ?_
  rintro e w' ⟨rfl, j, rfl⟩
  go_wp2_with fail
  refine (trim_is (hx.drewN j) hvx).mono ?_
  rintro e w' ⟨rfl, hX, rfl⟩
  go_wp2_with fail
  refine (trim_is (hy.drewN j) hvy).mono ?_
  rintro e w' ⟨rfl, hY, rfl⟩
  go_wp2_with fail
  refine (diff_any hX hY 1 1 (by omega) (by omega) (by rw [val_digs, val_digs]; have := HH.out; omega) ?_).mono ?_
  · rw [val_digs, val_digs]
    have h1 := lt_of_digs_length (Nat.le_refl (digs x).length)
    have h2 := Bs_mono (show (digs x).length ≤ max (digs x).length (digs y).length by omega)
    omega
  rintro e w' ⟨B, k, d, rfl, hN, hb⟩
  rw [val_digs, val_digs, Nat.one_mul, Nat.one_mul] at hN
  go_wp2_with fail
  go_ret2
  exact ⟨B, k, d, rfl, hN, (below_drewN (Below.refl _ _) j).trans hb⟩
end Go.Proofs.YtfdlkbbepkghmaaGreatDoor
namespace Go.Proofs.YtfdlkbbepkghmaaGreatDoor
open List (getElem_toArray getElem_cons_succ getElem_cons_zero setIfInBounds_toArray set_cons_zero set_cons_succ)
open Go.RowKit
section
variable {A A' : Option Addr} {n n' c c' x y L L' : Nat} {w : World}
theorem add_v (hx : RV w (.slice A n c) x L) (hy : RV w (.slice A' n' c') y L') (hL : L ≤ 1000000) (hL' : L' ≤ 1000000) :
    Calls Tryz.prog 175 #[.slice A n c, .slice A' n' c'] w fun e w' => ∃ B k d, e = .returned (.slice B k d) ∧ NV w' (.slice B k d) (x + y) (max L L' + 1) ∧ Below w.heap.size w w' := by
  have hb := add_lt_Bs hx.lt hy.lt
  obtain ⟨ds, h1, rfl, h3⟩ := hx
  obtain ⟨es, k1, rfl, k3⟩ := hy
  refine (add_any h1 k1 (by omega) (by omega)).mono ?_
  rintro e w' ⟨B, k, d, rfl, hN, hbl⟩
  exact ⟨B, k, d, rfl, ⟨hN, hb⟩, hbl⟩
theorem sub_v (hx : RV w (.slice A n c) x L) (hy : RV w (.slice A' n' c') y L') (hle : y ≤ x) :
    Calls Tryz.prog 176 #[.slice A n c, .slice A' n' c'] w fun e w' => ∃ B k d, e = .returned (.tuple #[.slice B k d, .bool true]) ∧ NV w' (.slice B k d) (x - y) L ∧ Below w.heap.size w w' := by
  have hb : x - y < Bs L := Nat.lt_of_le_of_lt (Nat.sub_le _ _) hx.lt
  obtain ⟨ds, h1, h2, h3⟩ := hx
  obtain ⟨es, k1, k2, k3⟩ := hy
  refine (sub_ge h1 k1 (Lib.hid h2) (Lib.hid k2) hle).mono ?_
  rintro e w' ⟨B, k, d, rfl, hN, hbl⟩
  exact ⟨B, k, d, rfl, ⟨hN, hb⟩, hbl⟩
end
end Go.Proofs.YtfdlkbbepkghmaaGreatDoor
namespace Go.Proofs.YtfdlkbbepkghmaaGreatDoor
open List (getElem_toArray getElem_cons_succ getElem_cons_zero setIfInBounds_toArray set_cons_zero set_cons_succ)
open Go.ChangeShapes Go.WideShapes Go.ChangeAt Go.WideMaps Go.WideElems Go.RowKit
def laidB {H : Type} : List (String × DataW H) := [("bspregion/api.ErrInvalid", Rows.laid_bspregion_api_ErrInvalid), ("bspregion/api.ErrUnbounded", Rows.laid_bspregion_api_ErrUnbounded)]
theorem doorB_met (os : Os) (args : Array Value) : laidMetH Tryz.prog laidB ((World.doorLaid Tryz.prog 400 os).forCall (fun _ _ => 0) ⟨#[], args, []⟩).memory :=
  laidMetH_of_parts3 (fuel := 8) (laidMet_of_run' 8 (by kernel_rfl) (by kernel_rfl)) (by kernel_rfl) (by kernel_rfl)
end Go.Proofs.YtfdlkbbepkghmaaGreatDoor
namespace Go.Proofs.YtfdlkbbepkghmaaGreatDoor
open List (getElem_toArray getElem_cons_succ getElem_cons_zero setIfInBounds_toArray set_cons_zero set_cons_succ)
open Go.RowKit
section
variable {A A' : Option Addr} {n n' c c' x y L L' : Nat} {ds : List Nat} {w : World}
theorem n_v (hx : RV w (.slice A n c) x L) :
    Calls Tryz.prog 58 #[.slice A n c] w fun e w' => ∃ B k d, e = .returned (.slice B k d) ∧ NV w' (.slice B k d) x L ∧ Below w.heap.size w w' := by
  have hb := hx.lt
  obtain ⟨ds, h1, h2, h3⟩ := hx
  refine (n_is h1 (Lib.hid h2)).mono ?_
  rintro e w' ⟨B, k, d, rfl, hN, hbl⟩
  exact ⟨B, k, d, rfl, ⟨hN, hb⟩, hbl⟩
end
end Go.Proofs.YtfdlkbbepkghmaaGreatDoor
namespace Go.Proofs.YtfdlkbbepkghmaaGreatDoor
open List (getElem_toArray getElem_cons_succ getElem_cons_zero setIfInBounds_toArray set_cons_zero set_cons_succ)
open Go.RowKit
section
variable {A A' : Option Addr} {n n' c c' x y L L' : Nat} {s s' : Bool} {z z' : Int} {w : World}
theorem sub_no_v (hx : RV w (.slice A n c) x L) (hy : RV w (.slice A' n' c') y L') (h : x < y) :
    Calls Tryz.prog 176 #[.slice A n c, .slice A' n' c'] w fun e w' => e = .returned (.tuple #[.slice none 0 0, .bool false]) ∧ Below w.heap.size w w' := by
  obtain ⟨ds, h1, h2, h3⟩ := hx
  obtain ⟨es, k1, k2, k3⟩ := hy
  exact sub_lt h1 k1 (Lib.hid h2) (Lib.hid k2) h
set_option maxRecDepth 100000 in
theorem iadd_same (s : Bool) (hx : RV w (.slice A n c) x L) (hy : RV w (.slice A' n' c') y L') (hL : L ≤ 1000000) (hL' : L' ≤ 1000000) (hz : sg s (x + y) = z) :
    Calls Tryz.prog 155 #[.agg #[.bool s, .slice A n c], .agg #[.bool s, .slice A' n' c']] w fun e w' => ∃ t B k d, e = .returned (.agg #[.bool t, .slice B k d]) ∧ NI w' t (.slice B k d) z (max L L' + 1) ∧ Below w.heap.size w w' := by
  have HZ := Lib.hid hz
  clear hz
  cases s
  · go_enter Tryz.func155, Tryz.ntmps155
    go_wp2_with fail
    obtain ⟨W, hW, b0, b1, b2, hbW, hsz⟩ := boxes3 w #[.bool false, .slice A n c] #[.bool false, .slice A' n' c'] #[.bool false, .slice none 0 0] 26 26 26
    rw [hW]
    obtain ⟨a0, a1⟩ := b0.cells2
    obtain ⟨d0, d1⟩ := b1.cells2
    have hx1 := hx.below hbW
    have hy1 := hy.below hbW
    clear hW hx hy
    go_wp2_with fail
    go_region_held3 (fun V => V.cell? ⟨w.heap.size, 0, none⟩ = some (.bool false) ∧ V.cell? ⟨w.heap.size, 1, none⟩ = some (.slice A n c) ∧ V.cell? ⟨w.heap.size + 1, 0, none⟩ = some (.bool false) ∧ V.cell? ⟨w.heap.size + 1, 1, none⟩ = some (.slice A' n' c')) (first | exact ⟨a0, a1, d0, d1⟩ | exact HC | exact KC | exact ((p0.far (by omega) _ _).and2 ((p1.far (by omega) _ _).all2)) | go_keep)
      (first
        | (go_at_call 175; refine (add_v (w := W.drew) hx1 hy1 hL hL').mono ?_; rintro e w1 ⟨B, k, d, rfl, hN, hb1⟩; have hb1' := below_drawn hb1; have q0 := b0.below hb1'; have q1 := b1.below hb1'; have q2 := b2.below hb1'; have HC := And.intro (q0.cell 0 _ rfl) (And.intro (q0.cell 1 _ rfl) (And.intro (q1.cell 0 _ rfl) (q1.cell 1 _ rfl))))
        | (go_at_call 147; refine (signed_v _ hN HZ.out).mono ?_; rintro e w2 ⟨t, rfl, hI, hb2⟩; have p0 := q0.below hb2; have p1 := q1.below hb2; have p2 := q2.below hb2; have KC := And.intro (p0.cell 0 _ rfl) (And.intro (p0.cell 1 _ rfl) (And.intro (p1.cell 0 _ rfl) (p1.cell 1 _ rfl))); have r0 := p2.cell 0 _ rfl; have r1 := p2.cell 1 _ rfl; have f0 := p2.frozen 0; have f1 := p2.frozen 1; have hbT := hbW.trans ((hb1'.trans (hb2.mono hb1'.size)).mono hbW.size)))
    have hI2 := hI.stored p2 (notInt_box _ _ _ _) (.bool t) (.slice B k d)
    have hbf := below_stored (g := w.heap.size + 1 + 1) hbT (by omega) (.bool t) (.slice B k d)
    have hbx := p2.stored (.bool t) (.slice B k d)
    go_wp2_with fail
    refine bodyPost_ret (ret_int rfl rfl hbx) rfl ?_
    exact ⟨t, B, k, d, rfl, hI2, hbf⟩
  · go_enter Tryz.func155, Tryz.ntmps155
    go_wp2_with fail
    obtain ⟨W, hW, b0, b1, b2, hbW, hsz⟩ := boxes3 w #[.bool true, .slice A n c] #[.bool true, .slice A' n' c'] #[.bool false, .slice none 0 0] 26 26 26
    rw [hW]
    obtain ⟨a0, a1⟩ := b0.cells2
    obtain ⟨d0, d1⟩ := b1.cells2
    have hx1 := hx.below hbW
    have hy1 := hy.below hbW
    clear hW hx hy
    go_wp2_with fail
    go_region_held3 (fun V => V.cell? ⟨w.heap.size, 0, none⟩ = some (.bool true) ∧ V.cell? ⟨w.heap.size, 1, none⟩ = some (.slice A n c) ∧ V.cell? ⟨w.heap.size + 1, 0, none⟩ = some (.bool true) ∧ V.cell? ⟨w.heap.size + 1, 1, none⟩ = some (.slice A' n' c')) (first | exact ⟨a0, a1, d0, d1⟩ | exact HC | exact KC | exact ((p0.far (by omega) _ _).and2 ((p1.far (by omega) _ _).all2)) | go_keep)
      (first
        | (go_at_call 175; refine (add_v (w := W.drew) hx1 hy1 hL hL').mono ?_; rintro e w1 ⟨B, k, d, rfl, hN, hb1⟩; have hb1' := below_drawn hb1; have q0 := b0.below hb1'; have q1 := b1.below hb1'; have q2 := b2.below hb1'; have HC := And.intro (q0.cell 0 _ rfl) (And.intro (q0.cell 1 _ rfl) (And.intro (q1.cell 0 _ rfl) (q1.cell 1 _ rfl))))
        | (go_at_call 147; refine (signed_v _ hN HZ.out).mono ?_; rintro e w2 ⟨t, rfl, hI, hb2⟩; have p0 := q0.below hb2; have p1 := q1.below hb2; have p2 := q2.below hb2; have KC := And.intro (p0.cell 0 _ rfl) (And.intro (p0.cell 1 _ rfl) (And.intro (p1.cell 0 _ rfl) (p1.cell 1 _ rfl))); have r0 := p2.cell 0 _ rfl; have r1 := p2.cell 1 _ rfl; have f0 := p2.frozen 0; have f1 := p2.frozen 1; have hbT := hbW.trans ((hb1'.trans (hb2.mono hb1'.size)).mono hbW.size)))
    have hI2 := hI.stored p2 (notInt_box _ _ _ _) (.bool t) (.slice B k d)
    have hbf := below_stored (g := w.heap.size + 1 + 1) hbT (by omega) (.bool t) (.slice B k d)
    have hbx := p2.stored (.bool t) (.slice B k d)
    go_wp2_with fail
    refine bodyPost_ret (ret_int rfl rfl hbx) rfl ?_
    exact ⟨t, B, k, d, rfl, hI2, hbf⟩
end
end Go.Proofs.YtfdlkbbepkghmaaGreatDoor
namespace Go.Proofs.YtfdlkbbepkghmaaGreatDoor
open List (getElem_toArray getElem_cons_succ getElem_cons_zero setIfInBounds_toArray set_cons_zero set_cons_succ)
open Go.RowKit
section
variable {A A' : Option Addr} {n n' c c' x y L L' : Nat} {s s' : Bool} {z z' : Int} {w : World}
set_option maxRecDepth 100000 in
theorem iadd_ge (hs : (s = true ∧ s' = false) ∨ (s = false ∧ s' = true)) (hx : RV w (.slice A n c) x L) (hy : RV w (.slice A' n' c') y L') (hle : y ≤ x) (hz : sg s (x - y) = z) :
    Calls Tryz.prog 155 #[.agg #[.bool s, .slice A n c], .agg #[.bool s', .slice A' n' c']] w fun e w' => ∃ t B k d, e = .returned (.agg #[.bool t, .slice B k d]) ∧ NI w' t (.slice B k d) z (max L L' + 1) ∧ Below w.heap.size w w' := by
  have HZ := Lib.hid hz
  have HLE := Lib.hid hle
  clear hz hle
  rcases hs with ⟨rfl, rfl⟩ | ⟨rfl, rfl⟩
  · go_enter Tryz.func155, Tryz.ntmps155
    go_wp2_with fail
    obtain ⟨W, hW, b0, b1, b2, hbW, hsz⟩ := boxes3 w #[.bool true, .slice A n c] #[.bool false, .slice A' n' c'] #[.bool false, .slice none 0 0] 26 26 26
    rw [hW]
    obtain ⟨a0, a1⟩ := b0.cells2
    obtain ⟨d0, d1⟩ := b1.cells2
    have hx1 := hx.below hbW
    have hy1 := hy.below hbW
    clear hW hx hy
    go_wp2_with fail
    refine (sub_v hx1 hy1 HLE.out).mono ?_
    rintro e w1 ⟨B, k, d, rfl, hN0, hb1'⟩
    have hN := hN0.more (L' := max L L' + 1) (by omega)
    have q0 := b0.below hb1'
    have q1 := b1.below hb1'
    have q2 := b2.below hb1'
    have e0 := q0.cell 0 _ rfl
    clear a0 a1 d0 d1 hx1 hy1 hN0
    go_wp2_with fail
    refine (signed_v _ hN HZ.out).mono ?_
    rintro e w2 ⟨t, rfl, hI, hb2⟩
    have p2 := q2.below hb2
    obtain ⟨r0, r1⟩ := p2.cells2
    have f0 := p2.frozen 0
    have f1 := p2.frozen 1
    have hbT := hbW.trans ((hb1'.trans (hb2.mono hb1'.size)).mono hbW.size)
    clear q0 q1 q2
    have hI2 := hI.stored p2 (notInt_box _ _ _ _) (.bool t) (.slice B k d)
    have hbf := below_stored (g := w.heap.size + 1 + 1) hbT (by omega) (.bool t) (.slice B k d)
    have hbx := p2.stored (.bool t) (.slice B k d)
    go_wp2_with fail
    refine bodyPost_ret (ret_int rfl rfl hbx) rfl ?_
    exact ⟨t, B, k, d, rfl, hI2, hbf⟩
  · go_enter Tryz.func155, Tryz.ntmps155
    go_wp2_with fail
    obtain ⟨W, hW, b0, b1, b2, hbW, hsz⟩ := boxes3 w #[.bool false, .slice A n c] #[.bool true, .slice A' n' c'] #[.bool false, .slice none 0 0] 26 26 26
    rw [hW]
    obtain ⟨a0, a1⟩ := b0.cells2
    obtain ⟨d0, d1⟩ := b1.cells2
    have hx1 := hx.below hbW
    have hy1 := hy.below hbW
    clear hW hx hy
    go_wp2_with fail
    refine (sub_v hx1 hy1 HLE.out).mono ?_
    rintro e w1 ⟨B, k, d, rfl, hN0, hb1'⟩
    have hN := hN0.more (L' := max L L' + 1) (by omega)
    have q0 := b0.below hb1'
    have q1 := b1.below hb1'
    have q2 := b2.below hb1'
    have e0 := q0.cell 0 _ rfl
    clear a0 a1 d0 d1 hx1 hy1 hN0
    go_wp2_with fail
    refine (signed_v _ hN HZ.out).mono ?_
    rintro e w2 ⟨t, rfl, hI, hb2⟩
    have p2 := q2.below hb2
    obtain ⟨r0, r1⟩ := p2.cells2
    have f0 := p2.frozen 0
    have f1 := p2.frozen 1
    have hbT := hbW.trans ((hb1'.trans (hb2.mono hb1'.size)).mono hbW.size)
    clear q0 q1 q2
    have hI2 := hI.stored p2 (notInt_box _ _ _ _) (.bool t) (.slice B k d)
    have hbf := below_stored (g := w.heap.size + 1 + 1) hbT (by omega) (.bool t) (.slice B k d)
    have hbx := p2.stored (.bool t) (.slice B k d)
    go_wp2_with fail
    refine bodyPost_ret (ret_int rfl rfl hbx) rfl ?_
    exact ⟨t, B, k, d, rfl, hI2, hbf⟩
set_option maxRecDepth 100000 in
theorem iadd_lt (hs : (s = true ∧ s' = false) ∨ (s = false ∧ s' = true)) (hx : RV w (.slice A n c) x L) (hy : RV w (.slice A' n' c') y L') (hlt : x < y) (hz : sg s' (y - x) = z) :
    Calls Tryz.prog 155 #[.agg #[.bool s, .slice A n c], .agg #[.bool s', .slice A' n' c']] w fun e w' => ∃ t B k d, e = .returned (.agg #[.bool t, .slice B k d]) ∧ NI w' t (.slice B k d) z (max L L' + 1) ∧ Below w.heap.size w w' := by
  have HZ := Lib.hid hz
  have HLE := Lib.hid hlt
  clear hz hlt
  rcases hs with ⟨rfl, rfl⟩ | ⟨rfl, rfl⟩
  · go_enter Tryz.func155, Tryz.ntmps155
    go_wp2_with fail
    obtain ⟨W, hW, b0, b1, b2, hbW, hsz⟩ := boxes3 w #[.bool true, .slice A n c] #[.bool false, .slice A' n' c'] #[.bool false, .slice none 0 0] 26 26 26
    rw [hW]
    obtain ⟨a0, a1⟩ := b0.cells2
    obtain ⟨d0, d1⟩ := b1.cells2
    have hx1 := hx.below hbW
    have hy1 := hy.below hbW
    clear hW hx hy
    go_wp2_with fail
    refine (sub_no_v hx1 hy1 HLE.out).mono ?_
    rintro e w0 ⟨rfl, hb0⟩
    have m0 := b0.below hb0
    have m1 := b1.below hb0
    have m2 := b2.below hb0
    have i1 := m0.cell 1 _ rfl
    have j1 := m1.cell 1 _ rfl
    have hx2 := hx1.below hb0
    have hy2 := hy1.below hb0
    clear a0 a1 d0 d1 hx1 hy1
    go_wp2_with fail
    refine (sub_v hy2 hx2 (Nat.le_of_lt HLE.out)).mono ?_
    rintro e w1 ⟨B, k, d, rfl, hN0, hb1⟩
    have hN := hN0.more (L' := max L L' + 1) (by omega)
    have hb1' := hb0.trans (hb1.mono hb0.size)
    have q0 := m0.below hb1
    have q1 := m1.below hb1
    have q2 := m2.below hb1
    have e0 := q1.cell 0 _ rfl
    clear i1 j1 hx2 hy2 hN0 b0 b1 b2 m0 m1 m2
    go_wp2_with fail
    refine (signed_v _ hN HZ.out).mono ?_
    rintro e w2 ⟨t, rfl, hI, hb2⟩
    have p2 := q2.below hb2
    obtain ⟨r0, r1⟩ := p2.cells2
    have f0 := p2.frozen 0
    have f1 := p2.frozen 1
    have hbT := hbW.trans ((hb1'.trans (hb2.mono hb1'.size)).mono hbW.size)
    clear q0 q1 q2
    have hI2 := hI.stored p2 (notInt_box _ _ _ _) (.bool t) (.slice B k d)
    have hbf := below_stored (g := w.heap.size + 1 + 1) hbT (by omega) (.bool t) (.slice B k d)
    have hbx := p2.stored (.bool t) (.slice B k d)
    go_wp2_with fail
    refine bodyPost_ret (ret_int rfl rfl hbx) rfl ?_
    exact ⟨t, B, k, d, rfl, hI2, hbf⟩
  · go_enter Tryz.func155, Tryz.ntmps155
    go_wp2_with fail
    obtain ⟨W, hW, b0, b1, b2, hbW, hsz⟩ := boxes3 w #[.bool false, .slice A n c] #[.bool true, .slice A' n' c'] #[.bool false, .slice none 0 0] 26 26 26
    rw [hW]
    obtain ⟨a0, a1⟩ := b0.cells2
    obtain ⟨d0, d1⟩ := b1.cells2
    have hx1 := hx.below hbW
    have hy1 := hy.below hbW
    clear hW hx hy
    go_wp2_with fail
    refine (sub_no_v hx1 hy1 HLE.out).mono ?_
    rintro e w0 ⟨rfl, hb0⟩
    have m0 := b0.below hb0
    have m1 := b1.below hb0
    have m2 := b2.below hb0
    have i1 := m0.cell 1 _ rfl
    have j1 := m1.cell 1 _ rfl
    have hx2 := hx1.below hb0
    have hy2 := hy1.below hb0
    clear a0 a1 d0 d1 hx1 hy1
    go_wp2_with fail
    refine (sub_v hy2 hx2 (Nat.le_of_lt HLE.out)).mono ?_
    rintro e w1 ⟨B, k, d, rfl, hN0, hb1⟩
    have hN := hN0.more (L' := max L L' + 1) (by omega)
    have hb1' := hb0.trans (hb1.mono hb0.size)
    have q0 := m0.below hb1
    have q1 := m1.below hb1
    have q2 := m2.below hb1
    have e0 := q1.cell 0 _ rfl
    clear i1 j1 hx2 hy2 hN0 b0 b1 b2 m0 m1 m2
    go_wp2_with fail
    refine (signed_v _ hN HZ.out).mono ?_
    rintro e w2 ⟨t, rfl, hI, hb2⟩
    have p2 := q2.below hb2
    obtain ⟨r0, r1⟩ := p2.cells2
    have f0 := p2.frozen 0
    have f1 := p2.frozen 1
    have hbT := hbW.trans ((hb1'.trans (hb2.mono hb1'.size)).mono hbW.size)
    clear q0 q1 q2
    have hI2 := hI.stored p2 (notInt_box _ _ _ _) (.bool t) (.slice B k d)
    have hbf := below_stored (g := w.heap.size + 1 + 1) hbT (by omega) (.bool t) (.slice B k d)
    have hbx := p2.stored (.bool t) (.slice B k d)
    go_wp2_with fail
    refine bodyPost_ret (ret_int rfl rfl hbx) rfl ?_
    exact ⟨t, B, k, d, rfl, hI2, hbf⟩
theorem iadd_v (h : RI w s (.slice A n c) z L) (h' : RI w s' (.slice A' n' c') z' L') (hL : L ≤ 1000000) (hL' : L' ≤ 1000000) :
    Calls Tryz.prog 155 #[.agg #[.bool s, .slice A n c], .agg #[.bool s', .slice A' n' c']] w fun e w' => ∃ t B k d, e = .returned (.agg #[.bool t, .slice B k d]) ∧ NI w' t (.slice B k d) (z + z') (max L L' + 1) ∧ Below w.heap.size w w' := by
  obtain ⟨x, hx, rfl⟩ := h
  obtain ⟨y, hy, rfl⟩ := h'
  by_cases hs : s = s'
  · subst hs
    exact iadd_same s hx hy hL hL' (by cases s <;> simp [sg] <;> omega)
  · have hs' : (s = true ∧ s' = false) ∨ (s = false ∧ s' = true) := by cases s <;> cases s' <;> simp_all
    rcases Nat.lt_or_ge x y with hlt | hle
    · exact iadd_lt hs' hx hy hlt (by rcases hs' with ⟨rfl, rfl⟩ | ⟨rfl, rfl⟩ <;> simp [sg] <;> omega)
    · exact iadd_ge hs' hx hy hle (by rcases hs' with ⟨rfl, rfl⟩ | ⟨rfl, rfl⟩ <;> simp [sg] <;> omega)
end
end Go.Proofs.YtfdlkbbepkghmaaGreatDoor
namespace Go.Proofs.YtfdlkbbepkghmaaGreatDoor
open List (getElem_toArray getElem_cons_succ getElem_cons_zero setIfInBounds_toArray set_cons_zero set_cons_succ)
open Go.RowKit
section
variable {A A' : Option Addr} {n n' c c' x y L L' : Nat} {s s' : Bool} {z z' k : Int} {w : World} {ds : List Nat}
set_option maxRecDepth 100000 in
theorem refI_v (h : RI w s (.slice A n c) z L) :
    Calls Tryz.prog 60 #[.agg #[.bool s, .slice A n c]] w fun e w' => ∃ t B k d, e = .returned (.agg #[.bool t, .slice B k d]) ∧ NI w' t (.slice B k d) z L ∧ Below w.heap.size w w' := by
  have hz := h.sg.symm
  have hr := h.rv
  have HZ := Lib.hid hz
  clear h hz
  go_enter Tryz.func60, Tryz.ntmps60
  go_wp2_with fail
  obtain ⟨W, hW, b0, b1, hbW, hsz⟩ := boxes2 w #[.bool s, .slice A n c] #[.bool false, .slice none 0 0] 26 35
  rw [hW]
  clear hW
  have hr1 := hr.below (hbW.trans ((drawn_below W).mono hbW.size))
  go_region_held3 (fun V => V.cell? ⟨w.heap.size, 0, none⟩ = some (.bool s) ∧ V.cell? ⟨w.heap.size, 1, none⟩ = some (.slice A n c)) (first | exact KC | exact HC | exact (b0.all2) | exact ((p0.far (by omega) _ _).all2) | go_keep)
    (first
      | (go_at_call 58; refine (n_v hr1).mono ?_; rintro e w1 ⟨B, k, d, rfl, hN, hb1⟩; have hb1' := below_drawn hb1; have q0 := b0.below hb1'; have q1 := b1.below hb1'; have HC := (And.intro (q0.cell 0 _ rfl) (q0.cell 1 _ rfl)))
      | (go_at_call 74; refine (nmake_v _ hN HZ.out).mono ?_; rintro e w2 ⟨t, rfl, hI, hb2⟩; have p0 := q0.below hb2; have p1 := q1.below hb2; have KC := (And.intro (p0.cell 0 _ rfl) (p0.cell 1 _ rfl)); have r0 := p1.cell 0 _ rfl; have r1 := p1.cell 1 _ rfl; have f0 := p1.frozen 0; have f1 := p1.frozen 1; have hbT := hbW.trans ((hb1'.trans (hb2.mono hb1'.size)).mono hbW.size))
    )
  have hF := hI.stored p1 (notInt_box _ _ _ _) (.bool t) (.slice B k d)
  have hbf := below_stored (g := w.heap.size + 1) hbT (by omega) (.bool t) (.slice B k d)
  have hbx := p1.stored (.bool t) (.slice B k d)
  go_wp2_with fail
  refine bodyPost_ret (ret_intN rfl rfl hbx) rfl ?_
  exact ⟨t, B, k, d, rfl, hF, hbf⟩
end
end Go.Proofs.YtfdlkbbepkghmaaGreatDoor
namespace Go.Proofs.YtfdlkbbepkghmaaGreatDoor
open List (getElem_toArray getElem_cons_succ getElem_cons_zero setIfInBounds_toArray set_cons_zero set_cons_succ)
open Go.RowKit
section
variable {A0 A1 A2 A3 D0 D1 D2 D3 : Option Addr} {n0 n1 n2 n3 c0 c1 c2 c3 m0 m1 m2 m3 e0 e1 e2 e3 : Nat} {s0 s1 s2 s3 : Bool} {z z0 z1 z2 : Int} {q q' q0 q1 q2 : Rat} {L L0 L1 L2 x x0 x1 y : Nat} {k : Int} {w : World}
set_option maxRecDepth 100000 in
theorem rsum_v (h : RQ w s0 (.slice A0 n0 c0) (.slice D0 m0 e0) q L) (h' : RQ w s1 (.slice A1 n1 c1) (.slice D1 m1 e1) q' L0) (hL : L ≤ 100000) (hL' : L0 ≤ 100000) :
    Calls Tryz.prog 134 #[.agg #[.bool s0, .slice A0 n0 c0, .slice D0 m0 e0], .agg #[.bool s1, .slice A1 n1 c1, .slice D1 m1 e1]] w fun e w' => ∃ s3 A3 n3 c3 D3 m3 e3, e = .returned (.agg #[.bool s3, .slice A3 n3 c3, .slice D3 m3 e3]) ∧ RF w' s3 (.slice A3 n3 c3) (.slice D3 m3 e3) (q+q') (max L 2 + max L0 2 + 1) ∧ Below w.heap.size w w' := by
  go_enter Tryz.func134, Tryz.ntmps134
  go_wp2_with fail
  obtain ⟨W0, hW, b0, b1, b2, hbW, hszW0⟩ := boxes3 w #[.bool s0, .slice A0 n0 c0, .slice D0 m0 e0] #[.bool s1, .slice A1 n1 c1, .slice D1 m1 e1] #[.bool false, .slice none 0 0, .slice none 0 0] 28 28 28
  rw [hW]
  clear hW
  replace h := h.below hbW
  replace h' := h'.below hbW
  have H0 := hbW
  clear hbW
  have hD := drawn_below W0
  replace h := h.below hD
  replace h' := h'.below hD
  replace b0 := b0.below hD
  replace b1 := b1.below hD
  replace b2 := b2.below hD
  replace H0 := H0.trans (hD.mono H0.size)
  clear hD
  refine wp_region_noPanic ?_
  refine wp_region_F (S := (fun V => V.cell? ⟨w.heap.size + 1, 0, none⟩ = some (.bool s1) ∧ V.cell? ⟨w.heap.size + 1, 1, none⟩ = some (.slice A1 n1 c1) ∧ V.cell? ⟨w.heap.size + 1, 2, none⟩ = some (.slice D1 m1 e1))) (F := (fun j => j == 3 || j == 4 || j == 5)) (by kernel_rfl) ?_
  generalize W0.drew = v1 at h h' b0 b1 b2 H0 ⊢
  refine wpAnyF_take (i := 2) (v := ?_) (fun j => j == 3 || j == 4 || j == 5) rfl (by kernel_rfl) (by kernel_rfl) (by kernel_rfl) (by kernel_rfl) (fun j hj => by have h6 : 6 ≤ j := hj; simp; omega) (fun _ _ _ h => h) (Or.inl ⟨by rfl, ?_⟩) (b1.all3) ?_
  rotate_left
  · (intro w hSw; (try dsimp only at hSw); go_simp; (try with_reducible rfl))
  (try simp only [getElem_toArray, getElem_cons_succ, getElem_cons_zero, Act.put, setIfInBounds_toArray, set_cons_zero, set_cons_succ])
  obtain ⟨cb00, cb01, cb02⟩ := b0.cells3
  refine wpAnyF_one (i := 0) (by kernel_rfl) rfl rfl (fun K hK => ?_)
  go_simp
  refine hK.out _ _ (b1.all3) ?_
  clear hK K
  (try simp only [getElem_toArray, getElem_cons_succ, getElem_cons_zero, Act.put, setIfInBounds_toArray, set_cons_zero, set_cons_succ])
  clear cb00 cb01 cb02
  refine wpAnyF_one (i := 1) (by kernel_rfl) rfl rfl (fun K hK => ?_)
  go_simp
  go_at_call 88
  refine (rfraction_v h).mono ?_
  rintro e v2 ⟨s2, A2, n2, c2, D2, m2, e2, rfl, fr, hb⟩
  replace h := h.below hb
  replace h' := h'.below hb
  replace b0 := b0.below hb
  replace b1 := b1.below hb
  replace b2 := b2.below hb
  replace H0 := H0.trans (hb.mono H0.size)
  clear hb
  clear h
  go_wp2_with fail
  refine hK.out _ _ (b1.all3) ?_
  clear hK K
  (try simp only [getElem_toArray, getElem_cons_succ, getElem_cons_zero, Act.put, setIfInBounds_toArray, set_cons_zero, set_cons_succ])
  refine wpAnyF_last (i := 3) (by kernel_rfl) rfl rfl (fun K hK => ?_)
  go_simp
  go_at_call 88
  refine (rfraction_v h').mono ?_
  rintro e v3 ⟨s3, A3, n3, c3, D3, m3, e3, rfl, fs, hb⟩
  replace h' := h'.below hb
  replace fr := fr.below hb
  replace b0 := b0.below hb
  replace b1 := b1.below hb
  replace b2 := b2.below hb
  replace H0 := H0.trans (hb.mono H0.size)
  clear hb
  clear h'
  go_wp2_with fail
  refine hK.out _ _ ?_
  clear hK K
  (try simp only [getElem_toArray, getElem_cons_succ, getElem_cons_zero, Act.put, setIfInBounds_toArray, set_cons_zero, set_cons_succ])
  obtain ⟨cb00, yb00, cb01, yb01, cb02, yb02⟩ := b0.cf3
  refine wpAny_one (i := 4) (by kernel_rfl) rfl (fun K hK => ?_)
  go_simp
  refine hK.out _ _ ?_
  clear hK K
  (try simp only [getElem_toArray, getElem_cons_succ, getElem_cons_zero, Act.put, setIfInBounds_toArray, set_cons_zero, set_cons_succ])
  clear cb00 yb00 cb01 yb01 cb02 yb02
  have hg := only_store3 v3 (w.heap.size) (.bool s2) (.slice A2 n2 c2) (.slice D2 m2 e2)
  have hB := b0.stored3 (.bool s2) (.slice A2 n2 c2) (.slice D2 m2 e2)
  generalize hX : (((v3.setCell ⟨w.heap.size, 0, none⟩ (.bool s2)).setCell ⟨w.heap.size, 1, none⟩ (.slice A2 n2 c2)).setCell ⟨w.heap.size, 2, none⟩ (.slice D2 m2 e2)) = X4 at hg hB ⊢
  clear hX
  replace fr := fr.kept b0 (by simp [notInt]) hg
  replace fs := fs.kept b0 (by simp [notInt]) hg
  replace b1 := b1.other hg (by omega)
  replace b2 := b2.other hg (by omega)
  replace b0 := hB
  replace H0 := below_only H0 hg (by omega) H0.size
  clear hg hB
  obtain ⟨cb10, yb10, cb11, yb11, cb12, yb12⟩ := b1.cf3
  refine wpAny_one (i := 5) (by kernel_rfl) rfl (fun K hK => ?_)
  go_simp
  refine hK.out _ _ ?_
  clear hK K
  (try simp only [getElem_toArray, getElem_cons_succ, getElem_cons_zero, Act.put, setIfInBounds_toArray, set_cons_zero, set_cons_succ])
  clear cb10 yb10 cb11 yb11 cb12 yb12
  have hg := only_store3 X4 (w.heap.size + 1) (.bool s3) (.slice A3 n3 c3) (.slice D3 m3 e3)
  have hB := b1.stored3 (.bool s3) (.slice A3 n3 c3) (.slice D3 m3 e3)
  generalize hX : (((X4.setCell ⟨w.heap.size + 1, 0, none⟩ (.bool s3)).setCell ⟨w.heap.size + 1, 1, none⟩ (.slice A3 n3 c3)).setCell ⟨w.heap.size + 1, 2, none⟩ (.slice D3 m3 e3)) = X5 at hg hB ⊢
  clear hX
  replace fr := fr.kept b1 (by simp [notInt]) hg
  replace fs := fs.kept b1 (by simp [notInt]) hg
  replace b0 := b0.other hg (by omega)
  replace b2 := b2.other hg (by omega)
  replace b1 := hB
  replace H0 := below_only H0 hg (by omega) H0.size
  clear hg hB
  refine wpAny_done (by kernel_rfl) ?_ _
  refine NoPanic.normal ?_
  obtain ⟨z0, d0, hz0, hd0, hn0, rfl⟩ := fr
  obtain ⟨z1, d1, hz1, hd1, hn1, rfl⟩ := fs
  obtain ⟨cb00, cb01, cb02⟩ := b0.cells3
  obtain ⟨cb10, cb11, cb12⟩ := b1.cells3
  go_wp2_with fail
  clear cb00 cb01 cb02 cb10 cb11 cb12
  have hD := drawn_below X5
  replace hz0 := hz0.below hD
  replace hd0 := hd0.below hD
  replace hz1 := hz1.below hD
  replace hd1 := hd1.below hD
  replace b0 := b0.below hD
  replace b1 := b1.below hD
  replace b2 := b2.below hD
  replace H0 := H0.trans (hD.mono H0.size)
  clear hD
  have K0 := (b0.and3 (b1.all3))
  go_region_held3 (fun V => V.cell? ⟨w.heap.size, 0, none⟩ = some (.bool s2) ∧ V.cell? ⟨w.heap.size, 1, none⟩ = some (.slice A2 n2 c2) ∧ V.cell? ⟨w.heap.size, 2, none⟩ = some (.slice D2 m2 e2) ∧ V.cell? ⟨w.heap.size + 1, 0, none⟩ = some (.bool s3) ∧ V.cell? ⟨w.heap.size + 1, 1, none⟩ = some (.slice A3 n3 c3) ∧ V.cell? ⟨w.heap.size + 1, 2, none⟩ = some (.slice D3 m3 e3)) (first | exact KS | exact K4 | exact K3 | exact K2 | exact K1 | exact K0 | go_keep)
    (first
      | (go_at_call 90; with_reducible refine (rscale_v hz0 hd1 (by omega) (by omega)).mono ?_; rintro e v6 ⟨s4, A4, n4, c4, rfl, f4, hb⟩; have hz0 := hz0.below hb; have hd0 := hd0.below hb; have hz1 := hz1.below hb; have hd1 := hd1.below hb; have b0 := b0.below hb; have b1 := b1.below hb; have b2 := b2.below hb; have H0 := H0.trans (hb.mono H0.size); have K1 := (b0.and3 (b1.all3)); clear hb)
      | (go_at_call 90; with_reducible refine (rscale_v hz1 hd0 (by omega) (by omega)).mono ?_; rintro e v7 ⟨s5, A5, n5, c5, rfl, f5, hb⟩; have hz0 := hz0.below hb; have hd0 := hd0.below hb; have hz1 := hz1.below hb; have hd1 := hd1.below hb; have f4 := f4.below hb; have b0 := b0.below hb; have b1 := b1.below hb; have b2 := b2.below hb; have H0 := H0.trans (hb.mono H0.size); have K2 := (b0.and3 (b1.all3)); clear hb)
      | (go_at_call 155; with_reducible refine (iadd_v f4.ri f5.ri (by omega) (by omega)).mono ?_; rintro e v8 ⟨s6, A6, n6, c6, rfl, f6, hb⟩; have hz0 := hz0.below hb; have hd0 := hd0.below hb; have hz1 := hz1.below hb; have hd1 := hd1.below hb; have f4 := f4.below hb; have f5 := f5.below hb; have b0 := b0.below hb; have b1 := b1.below hb; have b2 := b2.below hb; have H0 := H0.trans (hb.mono H0.size); clear f4; clear f5; have K3 := (b0.and3 (b1.all3)); clear hb)
      | (go_at_call 148; with_reducible refine (mul_v hd0 hd1 (by omega) (by omega)).mono ?_; rintro e v9 ⟨D6, m6, e6, rfl, f7, hb⟩; have hz0 := hz0.below hb; have hd0 := hd0.below hb; have hz1 := hz1.below hb; have hd1 := hd1.below hb; have f6 := f6.below hb; have b0 := b0.below hb; have b1 := b1.below hb; have b2 := b2.below hb; have H0 := H0.trans (hb.mono H0.size); have K4 := (b0.and3 (b1.all3)); have r0 := b2.cell 0 _ rfl; have f_0 := b2.frozen 0; have r1 := b2.cell 1 _ rfl; have f_1 := b2.frozen 1; have r2 := b2.cell 2 _ rfl; have f_2 := b2.frozen 2; have hg := only_store3 v9 (w.heap.size + 1 + 1) (.bool s6) (.slice A6 n6 c6) (.slice D6 m6 e6); have KS := ((b0.other hg (by omega)).and3 ((b1.other hg (by omega)).all3)); clear hb)
    )
  have hB := b2.stored3 (.bool s6) (.slice A6 n6 c6) (.slice D6 m6 e6)
  go_wp2_with fail
  generalize hX : (((v9.setCell ⟨w.heap.size + 1 + 1, 0, none⟩ (.bool s6)).setCell ⟨w.heap.size + 1 + 1, 1, none⟩ (.slice A6 n6 c6)).setCell ⟨w.heap.size + 1 + 1, 2, none⟩ (.slice D6 m6 e6)) = X10 at hg hB ⊢
  clear hX r0 f_0 r1 f_1 r2 f_2
  replace hz0 := hz0.kept b2 (by simp [notInt]) hg
  replace hd0 := hd0.kept b2 (by simp [notInt]) hg
  replace hz1 := hz1.kept b2 (by simp [notInt]) hg
  replace hd1 := hd1.kept b2 (by simp [notInt]) hg
  replace f6 := f6.kept b2 (by simp [notInt]) hg
  replace f7 := f7.kept b2 (by simp [notInt]) hg
  replace b0 := b0.other hg (by omega)
  replace b1 := b1.other hg (by omega)
  replace b2 := hB
  replace H0 := below_only H0 hg (by omega) H0.size
  clear hg hB
  refine bodyPost_ret (ret_rat rfl rfl b2) rfl ?_
  exact ⟨s6, A6, n6, c6, D6, m6, e6, rfl, ⟨_, _, f6.ri.more (by omega), f7.rv.more (by omega), Nat.mul_ne_zero hn0 hn1, Rat.mkRat_add_mkRat _ _ hn0 hn1⟩, H0⟩
set_option maxRecDepth 100000 in
theorem radd_v (h : RQ w s0 (.slice A0 n0 c0) (.slice D0 m0 e0) q L) (h' : RQ w s1 (.slice A1 n1 c1) (.slice D1 m1 e1) q' L0) (hL : L ≤ 100000) (hL' : L0 ≤ 100000) :
    Calls Tryz.prog 107 #[.agg #[.bool s0, .slice A0 n0 c0, .slice D0 m0 e0], .agg #[.bool s1, .slice A1 n1 c1, .slice D1 m1 e1]] w fun e w' => ∃ s3 A3 n3 c3 D3 m3 e3, e = .returned (.agg #[.bool s3, .slice A3 n3 c3, .slice D3 m3 e3]) ∧ NQ w' s3 (.slice A3 n3 c3) (.slice D3 m3 e3) (q+q') (max L 2 + max L0 2 + 1) ∧ Below w.heap.size w w' := by
  go_enter Tryz.func107, Tryz.ntmps107
  go_wp2_with fail
  obtain ⟨W0, hW, b0, b1, b2, hbW, hszW0⟩ := boxes3 w #[.bool s0, .slice A0 n0 c0, .slice D0 m0 e0] #[.bool s1, .slice A1 n1 c1, .slice D1 m1 e1] #[.bool false, .slice none 0 0, .slice none 0 0] 28 28 28
  rw [hW]
  clear hW
  replace h := h.below hbW
  replace h' := h'.below hbW
  have H0 := hbW
  clear hbW
  obtain ⟨cb00, cb01, cb02⟩ := b0.cells3
  obtain ⟨cb10, cb11, cb12⟩ := b1.cells3
  go_wp2_with fail
  clear cb00 cb01 cb02 cb10 cb11 cb12
  refine (rsum_v h h' hL hL').mono ?_
  rintro e w1 ⟨s4, A4, n4, c4, D4, m4, e4, rfl, fr, hb⟩
  replace h := h.below hb
  replace h' := h'.below hb
  replace b0 := b0.below hb
  replace b1 := b1.below hb
  replace b2 := b2.below hb
  replace H0 := H0.trans (hb.mono H0.size)
  clear hb
  go_wp2_with fail
  refine (rnorm_v fr.rq (by omega)).mono ?_
  rintro e w2 ⟨s3, A3, n3, c3, D3, m3, e3, rfl, fq, hb⟩
  replace h := h.below hb
  replace h' := h'.below hb
  replace fr := fr.below hb
  replace b0 := b0.below hb
  replace b1 := b1.below hb
  replace b2 := b2.below hb
  replace H0 := H0.trans (hb.mono H0.size)
  clear hb
  obtain ⟨cb20, yb20, cb21, yb21, cb22, yb22⟩ := b2.cf3
  go_wp2_with fail
  clear cb20 yb20 cb21 yb21 cb22 yb22
  have hg := only_store3 w2 (w.heap.size + 1 + 1) (.bool s3) (.slice A3 n3 c3) (.slice D3 m3 e3)
  have hB := b2.stored3 (.bool s3) (.slice A3 n3 c3) (.slice D3 m3 e3)
  generalize hX : (((w2.setCell ⟨w.heap.size + 1 + 1, 0, none⟩ (.bool s3)).setCell ⟨w.heap.size + 1 + 1, 1, none⟩ (.slice A3 n3 c3)).setCell ⟨w.heap.size + 1 + 1, 2, none⟩ (.slice D3 m3 e3)) = X3 at hg hB ⊢
  clear hX
  replace h := h.kept b2 (by simp [notInt]) hg
  replace h' := h'.kept b2 (by simp [notInt]) hg
  replace fr := fr.kept b2 (by simp [notInt]) hg
  replace fq := fq.kept b2 (by simp [notInt]) hg
  replace b0 := b0.other hg (by omega)
  replace b1 := b1.other hg (by omega)
  replace b2 := hB
  replace H0 := below_only H0 hg (by omega) H0.size
  clear hg hB
  refine bodyPost_ret (ret_rat rfl rfl b2) rfl ?_
  exact ⟨s3, A3, n3, c3, D3, m3, e3, rfl, fq.more (by omega), H0⟩
set_option maxRecDepth 100000 in
theorem rsub_v (h : RQ w s0 (.slice A0 n0 c0) (.slice D0 m0 e0) q L) (h' : RQ w s1 (.slice A1 n1 c1) (.slice D1 m1 e1) q' L0) (hL : L ≤ 100000) (hL' : L0 ≤ 100000) :
    Calls Tryz.prog 106 #[.agg #[.bool s0, .slice A0 n0 c0, .slice D0 m0 e0], .agg #[.bool s1, .slice A1 n1 c1, .slice D1 m1 e1]] w fun e w' => ∃ s3 A3 n3 c3 D3 m3 e3, e = .returned (.agg #[.bool s3, .slice A3 n3 c3, .slice D3 m3 e3]) ∧ NQ w' s3 (.slice A3 n3 c3) (.slice D3 m3 e3) (q-q') (max L 2 + max L0 2 + 1) ∧ Below w.heap.size w w' := by
  go_enter Tryz.func106, Tryz.ntmps106
  go_wp2_with fail
  obtain ⟨W0, hW, b0, b1, b2, hbW, hszW0⟩ := boxes3 w #[.bool s0, .slice A0 n0 c0, .slice D0 m0 e0] #[.bool (!s1), .slice A1 n1 c1, .slice D1 m1 e1] #[.bool false, .slice none 0 0, .slice none 0 0] 28 28 28
  rw [hW]
  clear hW
  replace h := h.below hbW
  replace h' := h'.below hbW
  have H0 := hbW
  clear hbW
  replace h' := h'.flip
  refine (radd_v h h' hL hL').mono ?_
  rintro e w1 ⟨s3, A3, n3, c3, D3, m3, e3, rfl, fq, hb⟩
  replace h := h.below hb
  replace h' := h'.below hb
  replace b0 := b0.below hb
  replace b1 := b1.below hb
  replace b2 := b2.below hb
  replace H0 := H0.trans (hb.mono H0.size)
  clear hb
  obtain ⟨cb20, yb20, cb21, yb21, cb22, yb22⟩ := b2.cf3
  go_wp2_with fail
  clear cb20 yb20 cb21 yb21 cb22 yb22
  have hg := only_store3 w1 (w.heap.size + 1 + 1) (.bool s3) (.slice A3 n3 c3) (.slice D3 m3 e3)
  have hB := b2.stored3 (.bool s3) (.slice A3 n3 c3) (.slice D3 m3 e3)
  generalize hX : (((w1.setCell ⟨w.heap.size + 1 + 1, 0, none⟩ (.bool s3)).setCell ⟨w.heap.size + 1 + 1, 1, none⟩ (.slice A3 n3 c3)).setCell ⟨w.heap.size + 1 + 1, 2, none⟩ (.slice D3 m3 e3)) = X2 at hg hB ⊢
  clear hX
  replace h := h.kept b2 (by simp [notInt]) hg
  replace h' := h'.kept b2 (by simp [notInt]) hg
  replace fq := fq.kept b2 (by simp [notInt]) hg
  replace b0 := b0.other hg (by omega)
  replace b1 := b1.other hg (by omega)
  replace b2 := hB
  replace H0 := below_only H0 hg (by omega) H0.size
  clear hg hB
  refine bodyPost_ret (ret_rat rfl rfl b2) rfl ?_
  exact ⟨s3, A3, n3, c3, D3, m3, e3, rfl, by rw [Rat.sub_eq_add_neg]; exact fq, H0⟩
end
end Go.Proofs.YtfdlkbbepkghmaaGreatDoor
namespace Go.Proofs.YtfdlkbbepkghmaaGreatDoor
open List (getElem_toArray getElem_cons_succ getElem_cons_zero setIfInBounds_toArray set_cons_zero set_cons_succ)
open Go.RowKit
section
variable {A0 A1 A2 A3 D0 D1 D2 D3 : Option Addr} {n0 n1 n2 n3 c0 c1 c2 c3 m0 m1 m2 m3 e0 e1 e2 e3 : Nat} {s0 s1 s2 s3 : Bool} {z z' z0 z1 z2 : Int} {q q' q0 q1 q2 : Rat} {L L0 L1 L2 x x0 x1 y : Nat} {k : Int} {w : World}
set_option maxRecDepth 100000 in
set_option maxHeartbeats 800000 in
theorem refq_v (h : RQ w s0 (.slice A0 n0 c0) (.slice D0 m0 e0) q L) (hL : L ≤ 900) :
    Calls Tryz.prog 20 #[.agg #[.bool s0, .slice A0 n0 c0, .slice D0 m0 e0]] w fun e w' => ∃ s1 A1 n1 c1 D1 m1 e1, e = .returned (.agg #[.bool s1, .slice A1 n1 c1, .slice D1 m1 e1]) ∧ PQ w' s1 (.slice A1 n1 c1) (.slice D1 m1 e1) q L ∧ Below w.heap.size w w' := by
  obtain ⟨z, d, h1, h2, rfl⟩ := h
  rcases Decidable.em (d = 0) with h0 | h0
  · subst h0
    rw [Rat.mkRat_zero]
    clear h1
    go_enter Tryz.func20, Tryz.ntmps20
    go_wp2_with fail
    obtain ⟨W0, hW, b0, b1, hbW, hszW0⟩ := boxes2 w #[.bool s0, .slice A0 n0 c0, .slice D0 m0 e0] #[.bool false, .slice none 0 0, .slice none 0 0] 28 37
    rw [hW]
    clear hW
    replace h2 := h2.below hbW
    have H0 := hbW
    clear hbW
    obtain ⟨cb00, cb01, cb02⟩ := b0.cells3
    go_wp2_with fail
    clear cb00 cb01 cb02
    refine (n_v h2).mono ?_
    rintro e w1 ⟨D2, m2, e2, rfl, fd, hb⟩
    replace h2 := h2.below hb
    replace b0 := b0.below hb
    replace b1 := b1.below hb
    replace H0 := H0.trans (hb.mono H0.size)
    clear hb
    have hm := nv_zero fd
    subst hm
    clear h2
    clear fd
    obtain ⟨cb10, yb10, cb11, yb11, cb12, yb12⟩ := b1.cf3
    go_wp2_with fail
    clear cb10 yb10 cb11 yb11 cb12 yb12
    have hg := only_store3 w1 (w.heap.size + 1) (.bool false) (.slice none 0 0) (.slice none 0 0)
    have hB := b1.stored3 (.bool false) (.slice none 0 0) (.slice none 0 0)
    generalize hX : (((w1.setCell ⟨w.heap.size + 1, 0, none⟩ (.bool false)).setCell ⟨w.heap.size + 1, 1, none⟩ (.slice none 0 0)).setCell ⟨w.heap.size + 1, 2, none⟩ (.slice none 0 0)) = X2 at hg hB ⊢
    clear hX
    replace b0 := b0.other hg (by omega)
    replace b1 := hB
    replace H0 := below_only H0 hg (by omega) H0.size
    clear hg hB
    refine bodyPost_ret (ret_numq rfl rfl b1) rfl ?_
    exact ⟨false, none, 0, 0, none, 0, 0, rfl, PQ.zero _, H0⟩
  · have HP := Lib.hid (Nat.pos_of_ne_zero h0)
    have HN := Lib.hid h0
    clear h0
    go_enter Tryz.func20, Tryz.ntmps20
    go_wp2_with fail
    obtain ⟨W0, hW, b0, b1, hbW, hszW0⟩ := boxes2 w #[.bool s0, .slice A0 n0 c0, .slice D0 m0 e0] #[.bool false, .slice none 0 0, .slice none 0 0] 28 37
    rw [hW]
    clear hW
    replace h1 := h1.below hbW
    replace h2 := h2.below hbW
    have H0 := hbW
    clear hbW
    obtain ⟨cb00, cb01, cb02⟩ := b0.cells3
    go_wp2_with fail
    clear cb00 cb01 cb02
    refine (n_v h2).mono ?_
    rintro e w1 ⟨D2, m2, e2, rfl, fd, hb⟩
    replace h1 := h1.below hb
    replace h2 := h2.below hb
    replace b0 := b0.below hb
    replace b1 := b1.below hb
    replace H0 := H0.trans (hb.mono H0.size)
    clear hb
    clear h2
    have hm := nv_pos fd HP.out
    have hm1 : ((m2 : Int) == 0) = false := by rw [beq_eq_false_iff_ne]; omega
    obtain ⟨cb00, cb01, cb02⟩ := b0.cells3
    go_wp2_with fail
    clear cb00 cb01 cb02
    refine (refI_v h1).mono ?_
    rintro e w2 ⟨s3, A3, n3, c3, rfl, fi, hb⟩
    replace h1 := h1.below hb
    replace fd := fd.below hb
    replace b0 := b0.below hb
    replace b1 := b1.below hb
    replace H0 := H0.trans (hb.mono H0.size)
    clear hb
    go_wp2_with fail
    clear h1
    refine (nfrac_v fi fd HN.out (by omega)).mono ?_
    rintro e w3 ⟨s4, A4, n4, c4, D4, m4, e4, rfl, fq, hb⟩
    replace fd := fd.below hb
    replace fi := fi.below hb
    replace b0 := b0.below hb
    replace b1 := b1.below hb
    replace H0 := H0.trans (hb.mono H0.size)
    clear hb
    obtain ⟨cb10, yb10, cb11, yb11, cb12, yb12⟩ := b1.cf3
    clear fi
    clear fd
    clear cb10 yb10 cb11 yb11 cb12 yb12
    obtain ⟨cb10, yb10, cb11, yb11, cb12, yb12⟩ := b1.cf3
    go_wp2_with fail
    clear cb10 yb10 cb11 yb11 cb12 yb12
    have hg := only_store3 w3 (w.heap.size + 1) (.bool s4) (.slice A4 n4 c4) (.slice D4 m4 e4)
    have hB := b1.stored3 (.bool s4) (.slice A4 n4 c4) (.slice D4 m4 e4)
    generalize hX : (((w3.setCell ⟨w.heap.size + 1, 0, none⟩ (.bool s4)).setCell ⟨w.heap.size + 1, 1, none⟩ (.slice A4 n4 c4)).setCell ⟨w.heap.size + 1, 2, none⟩ (.slice D4 m4 e4)) = X4 at hg hB ⊢
    clear hX
    replace fq := fq.kept b1 (by simp [notInt]) hg
    replace b0 := b0.other hg (by omega)
    replace b1 := hB
    replace H0 := below_only H0 hg (by omega) H0.size
    clear hg hB
    refine bodyPost_ret (ret_numq rfl rfl b1) rfl ?_
    exact ⟨s4, A4, n4, c4, D4, m4, e4, rfl, fq, H0⟩
end
end Go.Proofs.YtfdlkbbepkghmaaGreatDoor
namespace Go.Proofs.YtfdlkbbepkghmaaGreatDoor
open List (getElem_toArray getElem_cons_succ getElem_cons_zero setIfInBounds_toArray set_cons_zero set_cons_succ)
theorem ends_mkS {ts : List Rat} : (∀ s ∈ mkS none ts, (∀ a, s.lo = some a → a ∈ ts) ∧ ∀ b, s.hi = some b → b ∈ ts) ∧ ∀ lo : Option Rat, ∀ s ∈ mkS (some lo) ts, (∀ a, s.lo = some a → lo = some a ∨ a ∈ ts) ∧ ∀ b, s.hi = some b → b ∈ ts := by
  induction ts with
  | nil =>
    refine ⟨fun s h => (by cases h), fun lo s h => ?_⟩
    have := List.mem_singleton.1 h; subst this
    exact ⟨fun a ha => .inl ha, fun b hb => (by cases hb)⟩
  | cons t ts ih =>
    refine ⟨fun s h => ?_, fun lo s h => ?_⟩
    · have := ih.2 (some t) s h
      exact ⟨fun a ha => by
        rcases this.1 a ha with e | e
        · injection e with e; subst e; exact List.mem_cons_self ..
        · exact List.mem_cons_of_mem _ e, fun b hb => List.mem_cons_of_mem _ (this.2 b hb)⟩
    · rcases List.mem_cons.1 h with rfl | h
      · exact ⟨fun a ha => .inl ha, fun b hb => by injection hb with hb; subst hb; exact List.mem_cons_self ..⟩
      · have := ih.1 s h
        exact ⟨fun a ha => .inr (List.mem_cons_of_mem _ (this.1 a ha)), fun b hb => List.mem_cons_of_mem _ (this.2 b hb)⟩
theorem ends_set {b : Bool} {ts : List Rat} : ∀ s ∈ spansOf b ts, (∀ a, s.lo = some a → a ∈ ts) ∧ ∀ b, s.hi = some b → b ∈ ts := by
  cases b
  · exact ends_mkS.1
  · intro s h
    have := ends_mkS.2 none s h
    exact ⟨fun a ha => (this.1 a ha).resolve_left fun e => (by cases e), this.2⟩
end Go.Proofs.YtfdlkbbepkghmaaGreatDoor
namespace Go.Proofs.YtfdlkbbepkghmaaGreatDoor
open List (getElem_toArray getElem_cons_succ getElem_cons_zero setIfInBounds_toArray set_cons_zero set_cons_succ)
open Go.RowKit
section
variable {f0 h0 f1 h1 f2 h2 f3 h3 f4 h4 f5 h5 f6 h6 f7 h7 f8 h8 f9 h9 f10 h10 f11 h11 : Bool} {A0 A1 A2 A3 A4 A5 A6 A9 D0 D1 D2 D3 D4 D6 : Option Addr} {n0 n1 n2 n3 n4 n5 n6 c0 c1 c2 c3 c4 c5 c6 c9 m0 m1 m2 m3 m4 m6 e0 e1 e2 e3 e4 e6 : Nat} {s0 s1 s2 s3 s4 s5 s6 : Bool} {q0 q1 q2 q3 q4 q5 q6 q7 : Rat} {z0 z1 z2 z3 z4 z5 z6 z7 z8 z9 z10 z11 : Int} {L L0 L1 x y : Nat} {k : Int} {b : Bool} {w : World}
variable {o0 o1 o2 o3 : Option Rat} {l l' : List Sp}
set_option maxRecDepth 100000 in
set_option maxHeartbeats 4000000 in
theorem combine_and {va vb : Value} {la lb : List Sp} (hA : SrS w L va la) (hB : SrS w L vb lb) (hn : la.length + lb.length ≤ 400) (hL : L ≤ 40) :
    Calls Tryz.prog 29 #[.int .i64 2, va, vb] w fun e w' => ∃ y, e = .returned y ∧ SrS w' L y (fromG [] false none (endsT [] (la ++ lb)) ((probesT (endsT [] (la ++ lb))).map (fun q => ((clsL la q : Int) == 2) && ((clsL lb q : Int) == 2)))) ∧ Below w.heap.size w w' := by
  obtain ⟨A, c, rfl, hc1, hc2⟩ := hA.form
  obtain ⟨A', c', rfl, hc3, hc4⟩ := hB.form
  unfold maxLen at hc2 hc4
  have HA := Lib.hid hA
  have HB := Lib.hid hB
  obtain ⟨cssa, hra, haa⟩ := hA
  obtain ⟨cssb, hrb, hab⟩ := hB
  have HLA := Lib.hid (All2.len haa)
  have HLB := Lib.hid (All2.len hab)
  replace haa : SrL w L cssa la := haa
  replace hab : SrL w L cssb lb := hab
  have hca := sre_cells haa
  have hcb := sre_cells hab
  have HRA := Lib.hid hra
  have HRB := Lib.hid hrb
  clear hra hrb
  obtain ⟨W0, hW, b0, hb0, hs0⟩ := boxes1 w #[] 39
  have hown : OwnE W0 w.heap.size 39 8 (.slice (some ⟨w.heap.size, 0, none⟩) 0 0) [] := b0.owne (Nat.le_refl _)
  have lB0 : w.heap.size ≤ W0.heap.size := hb0.size
  have ln0 : ([] : List (List Value)).length + cssa.length ≤ 200000 := by have := HLA.out; simp; omega
  have ln1 : cssa.length + cssb.length ≤ 200000 := by have := HLA.out; have := HLB.out; omega
  clear b0 hs0
  have hcl := (endsT_spec (la ++ lb) [] trivial).2.2.2.1
  rw [List.length_append] at hcl
  simp only [List.length_nil] at hcl
  have hpl := probes_len (endsT [] (la ++ lb))
  generalize hcuts : endsT [] (la ++ lb) = cuts at hcl hpl ⊢
  have HCU := Lib.hid hcuts
  generalize hps : probesT cuts = ps at hpl ⊢
  have HPS := Lib.hid hps
  have HPL := Lib.hid hpl
  clear hcuts hps hpl
  go_enter Tryz.func29, Tryz.ntmps29
  go_wp2_with (at_builtin; first | (refine wpList_append_rows (v := .slice (some ⟨w.heap.size, 0, none⟩) 0 0) (css := []) (css' := cssa) rfl _ _ rfl elem_s6 w.heap.size rfl hown rfl (HRA.out.below hb0) hca ln0 lB0 ?_; intro v1 w1 hown1 hg1; have hb1 := hb0.trans (hown.trod hg1 lB0); rw [List.nil_append] at hown1; obtain ⟨A1_, c1_, rfl, hx1, hx2⟩ := hown1.form; clear hx1 hx2) | (refine wpList_append_rows (v := .slice A1_ cssa.length c1_) (css := cssa) (css' := cssb) rfl _ _ rfl elem_s6 w.heap.size rfl hown1 rfl (HRB.out.below hb1) hcb ln1 hb1.size ?_; intro v2 w2 hown2 hg2; have hb2 := hb1.trans (hown1.trod hg2 hb1.size)))
  have hSS : SrS w2 L v2 (la ++ lb) := ⟨_, hown2.read, All2.app (haa.below hb2) (hab.below hb2)⟩
  clear hW hown hown1 hown2 hg1 hg2 hb0 hb1 haa hab hca hcb HRA HRB lB0 ln0 ln1
  refine (ends_v hSS (by simp; omega) hL).mono ?_
  rintro e w3 ⟨y1, rfl, hC, hb3⟩
  replace hb3 := hb2.trans (hb3.mono hb2.size)
  clear hSS hb2
  rw [HCU.out] at hC
  go_wp2_with fail
  have hP : Calls Tryz.prog 66 #[y1] w3 fun e w' => ∃ y, e = .returned y ∧ QS w' (2 * max L 2 + 3) y (probesT cuts) ∧ Below w3.heap.size w3 w' := by
    clear HCU HPS HPL
    cases cuts with
    | nil => exact probes_nil hC
    | cons q0 qs => exact probes_v hC (by omega) hL
  refine hP.mono ?_
  rintro e w4 ⟨y2, rfl, hQ, hb4⟩
  clear hP
  have HC := Lib.hid (hC.below hb4)
  replace hb4 := hb3.trans (hb4.mono hb3.size)
  clear hC hb3
  have HA4 := Lib.hid (HA.out.below hb4)
  have HB4 := Lib.hid (HB.out.below hb4)
  have HBL := Lib.hid hb4
  clear HA HB hb4
  rw [HPS.out] at hQ
  obtain ⟨A2, c2, rfl, hc5, hc6⟩ := hQ.form
  unfold maxLen at hc6
  have hpn : ps.length ≤ 10000 := by have := HPL.out; omega
  have HQP := Lib.hid hQ
  clear hQ
  go_wp2_with fail
  go_loopw [8, 23] (fun t8 t23 wr => ∃ (i : Nat) (A9 : Option Addr) (c9 : Nat) (css : List (List Value)), i ≤ ps.length ∧ t23 = .int .i64 (i : Int) ∧ t8 = .slice A9 css.length c9 ∧ OwnE wr w4.heap.size 4 1 (.slice A9 css.length c9) css ∧ css = ((ps.take i).map (fun q => ((clsL la q : Int) == 2) && ((clsL lb q : Int) == 2))).map (fun m => [Value.bool m]) ∧ Below w4.heap.size w4 wr) (fun _ t23 _ => ps.length - (intOf t23).toNat)
  case atStart => exact ⟨0, none, 0, [], Nat.zero_le _, rfl, rfl, OwnE.nil _ _ _ _, rfl, Below.refl _ _⟩
  case round =>
    obtain ⟨i, A9, c9, css, hi, rfl, rfl, hown, hcss, H0⟩ := hrel
    have HCSS := Lib.hid hcss
    have hcl9 : css.length ≤ i := by rw [hcss, List.length_map, List.length_map]; exact List.length_take_le _ _
    clear hcss
    by_cases hlt : i < ps.length
    · obtain ⟨q, hq⟩ : ∃ q, ps[i]? = some q := ⟨_, List.getElem?_eq_getElem hlt⟩
      obtain ⟨g, o, s4, A4, n4, c4, D4, m4, e4, rfl, cc0, cc1, cc2, kq⟩ := (HQP.out.below H0).elem hq
      obtain ⟨x, hx⟩ : ∃ x, ((clsL la q : Int) == 2) = x := ⟨_, rfl⟩
      obtain ⟨y, hy⟩ : ∃ x, ((clsL lb q : Int) == 2) = x := ⟨_, rfl⟩
      have HX := Lib.hid hx
      have HY := Lib.hid hy
      clear hx hy
      have HT : Hid (((ps.take (i + 1)).map (fun q => ((clsL la q : Int) == 2) && ((clsL lb q : Int) == 2))).map (fun m => [Value.bool m]) = css ++ [[Value.bool (x && y)]]) := Lib.hid (by rw [List.take_add_one, hq, List.map_append, List.map_append, ← HCSS.out, ← HX.out, ← HY.out]; rfl)
      clear hq
      obtain ⟨W5, hW5, b10, hb10, hs10⟩ := boxes1 wr #[.bool s4, .slice A4 n4 c4, .slice D4 m4 e4] 37
      have hn10 := hown.ne' (Nat.le_refl _)
      replace hown := hown.below hb10
      replace kq := kq.below hb10
      replace H0 := H0.trans (hb10.mono H0.size)
      clear hs10 hb10
      have hA5 := HA4.out.below H0
      have hB5 := HB4.out.below H0
      go_wp2_with fail
      clear hW5 cc0 cc1 cc2
      have hD := drawn_below W5
      replace kq := kq.below hD
      replace hA5 := hA5.below hD
      replace hB5 := hB5.below hD
      replace hown := hown.below hD
      replace b10 := b10.below hD
      replace H0 := H0.trans (hD.mono H0.size)
      clear hD
      refine wp_region_noPanic ?_
      refine wp_region_held_drew (S := (fun V => V.cell? ⟨wr.heap.size, 0, none⟩ = some (.bool s4) ∧ V.cell? ⟨wr.heap.size, 1, none⟩ = some (.slice A4 n4 c4) ∧ V.cell? ⟨wr.heap.size, 2, none⟩ = some (.slice D4 m4 e4))) (by kernel_rfl) (b10.all3) (fun hHeld => ?_)
      generalize W5.drew = v600 at H0 hHeld kq hA5 hB5 hown b10 ⊢
      refine todo [0, 1, 3, 4] ?_
      iterate 4 (refine tkT ?_ rfl (by kernel_rfl) (fun _ _ _ h => h) (by rfl) (by assumption) ?_ ?_; rotate_left; focus (intro w hSw; (try dsimp only at hSw); go_simp; (try with_reducible rfl)); (try simp only [getElem_toArray, getElem_cons_succ, getElem_cons_zero, Act.put, setIfInBounds_toArray, set_cons_zero, set_cons_succ]))
      refine tdone ?_
      refine rd1 2 (by kernel_rfl) rfl (fun K hK => ?_)
      go_simp
      go_at_call 67
      refine (in_x HX.out hA5 kq (by omega) (by omega)).mono ?_
      rintro e w601 ⟨rfl, hb⟩
      replace kq := kq.below hb
      replace hA5 := hA5.below hb
      replace hB5 := hB5.below hb
      replace hown := hown.below hb
      replace b10 := b10.below hb
      replace H0 := H0.trans (hb.mono H0.size)
      clear hb
      go_wp2_with fail
      refine hK.out _ _ (b10.all3) (fun hHeld => ?_)
      clear hK K
      (try simp only [getElem_toArray, getElem_cons_succ, getElem_cons_zero, Act.put, setIfInBounds_toArray, set_cons_zero, set_cons_succ])
      refine rd1 5 (by kernel_rfl) rfl (fun K hK => ?_)
      go_simp
      go_at_call 67
      refine (in_x HY.out hB5 kq (by omega) (by omega)).mono ?_
      rintro e w602 ⟨rfl, hb⟩
      replace kq := kq.below hb
      replace hA5 := hA5.below hb
      replace hB5 := hB5.below hb
      replace hown := hown.below hb
      replace b10 := b10.below hb
      replace H0 := H0.trans (hb.mono H0.size)
      clear hb
      go_wp2_with fail
      refine hK.out _ _ (b10.all3) (fun hHeld => ?_)
      clear hK K
      (try simp only [getElem_toArray, getElem_cons_succ, getElem_cons_zero, Act.put, setIfInBounds_toArray, set_cons_zero, set_cons_succ])
      refine todo [6, 7] ?_
      iterate 2 (refine tkT ?_ rfl (by kernel_rfl) (fun _ _ _ h => h) (by rfl) (by assumption) ?_ ?_; rotate_left; focus (intro w hSw; (try dsimp only at hSw); go_simp; (try with_reducible rfl)); (try simp only [getElem_toArray, getElem_cons_succ, getElem_cons_zero, Act.put, setIfInBounds_toArray, set_cons_zero, set_cons_succ]))
      refine tdone ?_
      refine wpAnyH_done (by kernel_rfl) ?_ _
      refine NoPanic.normal ?_
      clear b10 kq hA5 hB5 hn10
      have lB1 : w4.heap.size ≤ w602.heap.size := H0.size
      have ln1 : css.length ≤ 100000 := by omega
      cases x <;> cases y
      · have hq1 : ([.bool false] : List Value).all (fun u => u.oneCell' && notInt u) = true := by simp [notInt, Value.oneCell']
        go_wp2_with (at_builtin; refine wpList_append_row (v := .slice A9 css.length c9) (css := css) rfl _ _ rfl elem_bool w4.heap.size [.bool false] rfl hown rfl rfl hq1 ln1 lB1 ?_; intro v1 w8 hown1 hg1)
        replace H0 := H0.trans (hown.trod hg1 lB1)
        have HT2 : Hid (css ++ [[.bool false]] = _) := Lib.hid HT.out.symm
        clear hown hg1 hq1 ln1 lB1 hcl9 HT
        generalize css ++ [[.bool false]] = cs1_ at hown1 HT2
        obtain ⟨A1_, c1_, rfl, hx1, hx2⟩ := hown1.form
        clear hx1 hx2
        go_wp2_with fail
        go_roundw
        case rel => exact ⟨i + 1, _, _, _, by omega, by go_num, rfl, hown1, HT2.out, H0⟩
        case measure => simp [intOf]; omega
      · have hq1 : ([.bool false] : List Value).all (fun u => u.oneCell' && notInt u) = true := by simp [notInt, Value.oneCell']
        go_wp2_with (at_builtin; refine wpList_append_row (v := .slice A9 css.length c9) (css := css) rfl _ _ rfl elem_bool w4.heap.size [.bool false] rfl hown rfl rfl hq1 ln1 lB1 ?_; intro v1 w8 hown1 hg1)
        replace H0 := H0.trans (hown.trod hg1 lB1)
        have HT2 : Hid (css ++ [[.bool false]] = _) := Lib.hid HT.out.symm
        clear hown hg1 hq1 ln1 lB1 hcl9 HT
        generalize css ++ [[.bool false]] = cs1_ at hown1 HT2
        obtain ⟨A1_, c1_, rfl, hx1, hx2⟩ := hown1.form
        clear hx1 hx2
        go_wp2_with fail
        go_roundw
        case rel => exact ⟨i + 1, _, _, _, by omega, by go_num, rfl, hown1, HT2.out, H0⟩
        case measure => simp [intOf]; omega
      · have hq1 : ([.bool false] : List Value).all (fun u => u.oneCell' && notInt u) = true := by simp [notInt, Value.oneCell']
        go_wp2_with (at_builtin; refine wpList_append_row (v := .slice A9 css.length c9) (css := css) rfl _ _ rfl elem_bool w4.heap.size [.bool false] rfl hown rfl rfl hq1 ln1 lB1 ?_; intro v1 w8 hown1 hg1)
        replace H0 := H0.trans (hown.trod hg1 lB1)
        have HT2 : Hid (css ++ [[.bool false]] = _) := Lib.hid HT.out.symm
        clear hown hg1 hq1 ln1 lB1 hcl9 HT
        generalize css ++ [[.bool false]] = cs1_ at hown1 HT2
        obtain ⟨A1_, c1_, rfl, hx1, hx2⟩ := hown1.form
        clear hx1 hx2
        go_wp2_with fail
        go_roundw
        case rel => exact ⟨i + 1, _, _, _, by omega, by go_num, rfl, hown1, HT2.out, H0⟩
        case measure => simp [intOf]; omega
      · have hq1 : ([.bool true] : List Value).all (fun u => u.oneCell' && notInt u) = true := by simp [notInt, Value.oneCell']
        go_wp2_with (at_builtin; refine wpList_append_row (v := .slice A9 css.length c9) (css := css) rfl _ _ rfl elem_bool w4.heap.size [.bool true] rfl hown rfl rfl hq1 ln1 lB1 ?_; intro v1 w8 hown1 hg1)
        replace H0 := H0.trans (hown.trod hg1 lB1)
        have HT2 : Hid (css ++ [[.bool true]] = _) := Lib.hid HT.out.symm
        clear hown hg1 hq1 ln1 lB1 hcl9 HT
        generalize css ++ [[.bool true]] = cs1_ at hown1 HT2
        obtain ⟨A1_, c1_, rfl, hx1, hx2⟩ := hown1.form
        clear hx1 hx2
        go_wp2_with fail
        go_roundw
        case rel => exact ⟨i + 1, _, _, _, by omega, by go_num, rfl, hown1, HT2.out, H0⟩
        case measure => simp [intOf]; omega
    · obtain rfl : i = ps.length := by omega
      have hM : MS wr (.slice A9 css.length c9) (ps.map (fun q => ((clsL la q : Int) == 2) && ((clsL lb q : Int) == 2))) := by
        have h1 := hown.read
        have h2 := HCSS.out
        rw [List.take_length] at h2
        unfold MS
        rw [← h2]; exact h1
      have hC := HC.out.below H0
      clear hown
      go_wp2_with fail
      refine (from_v hC hM (by rw [List.length_map]; exact HPL.out) (by omega)).mono ?_
      rintro e w9 ⟨y, rfl, hF, hb⟩
      go_wp2_with fail
      go_ret
      exact ⟨_, rfl, hF, HBL.out.trans ((H0.trans (hb.mono H0.size)).mono HBL.out.size)⟩
end
end Go.Proofs.YtfdlkbbepkghmaaGreatDoor
