/-
  The contracts of Cmp and Sub.
-/
import Derived.Test.YtkhfadfjkmhpgaaDoorDiff
import Derived.Test.YtkhfadfjkmhpgaaDoorSame
namespace Go.Proofs.YtkhfadfjkmhpgaaDoor
open Go.RowKit

/-- How two numbers compare. -/
def cmpI (x y : Nat) : Int := if x < y then -1 else if y < x then 1 else 0
theorem cmpI_lt {x y : Nat} (h : x < y) : cmpI x y = -1 := by simp [cmpI, h]
theorem cmpI_gt {x y : Nat} (h : y < x) : cmpI x y = 1 := by simp [cmpI, h, Nat.lt_asymm h]
theorem cmpI_eq {x y : Nat} (h : x = y) : cmpI x y = 0 := by simp [cmpI, h]

theorem order_t (w : World) : Calls Tryd.prog 71 #[.bool true] w fun e w' => e = .returned (.int .i64 (-1)) ∧ w = w' := order_any true w
theorem order_f (w : World) : Calls Tryd.prog 71 #[.bool false] w fun e w' => e = .returned (.int .i64 1) ∧ w = w' := order_any false w

theorem val_split {ds : List Nat} {k : Nat} (h : k < ds.length) : val ds = val (ds.take k) + Bs k * ds.getD k 0 + Bs (k + 1) * val (ds.drop (k + 1)) := by
  rw [← val_take_succ ds k h]; exact val_take_drop ds (k + 1) (by omega)
theorem split_lt {b u v x y h : Nat} (hu : u < b) (hxy : x < y) : u + b * x + h < v + b * y + h := by
  have h1 : b * (x + 1) ≤ b * y := Nat.mul_le_mul_left b hxy
  rw [Nat.mul_add] at h1
  omega
theorem cmp_digit {ds es : List Nat} (hd : OkD ds) {k : Nat} (h1 : k < ds.length) (h2 : k < es.length) (h : ds.drop (k + 1) = es.drop (k + 1)) (hlt : ds.getD k 0 < es.getD k 0) : val ds < val es := by
  rw [val_split h1, val_split h2, h]
  exact split_lt (val_take_lt hd k) hlt
theorem drop_eq_pred {ds es : List Nat} {k : Nat} (h1 : k < ds.length) (h2 : k < es.length) (h : ds.drop (k + 1) = es.drop (k + 1)) (hd : ds.getD k 0 = es.getD k 0) : ds.drop k = es.drop k := by
  rw [List.drop_eq_getElem_cons h1, List.drop_eq_getElem_cons h2, h]
  rw [List.getD_eq_getElem?_getD, List.getD_eq_getElem?_getD, List.getElem?_eq_getElem h1, List.getElem?_eq_getElem h2] at hd
  simp only [Option.getD_some] at hd
  rw [hd]
theorem lt_of_len {x y : Nat} (h : (digs x).length < (digs y).length) : x < y := by
  rcases Nat.lt_or_ge x y with h1 | h1
  · exact h1
  · have := digs_length_mono h1; omega

set_option maxRecDepth 100000 in
set_option maxHeartbeats 800000 in
theorem cmp_is {A A' : Option Addr} {n n' c c' x y : Nat} {ds es : List Nat} {w : World} (hx : Raw w (.slice A n c) ds) (hy : Raw w (.slice A' n' c') es) (hvx : Hid (val ds = x)) (hvy : Hid (val es = y)) :
    Calls Tryd.prog 54 #[.slice A n c, .slice A' n' c'] w fun e w' => e = .returned (.int .i64 (cmpI x y)) ∧ ∃ j, w' = w.drewN j := by
  go_enter Tryd.func54, Tryd.ntmps54
  go_wp2_with fail
  refine (trim_is hx hvx).mono ?_
  rintro e w' ⟨rfl, hX, rfl⟩
  go_wp2_with fail
  refine (trim_is hy hvy).mono ?_
  rintro e w' ⟨rfl, hY, rfl⟩
  clear hx hy
  have hX' : Raw w (.slice A (digs x).length c) (digs x) := hX
  have hY' : Raw w (.slice A' (digs y).length c') (digs y) := hY
  have hl := hX'.len
  have hl' := hY'.len
  by_cases hlen : (digs x).length = (digs y).length
  · have hlB : (((digs x).length : Int) != ((digs y).length : Int)) = false := by simp [hlen]
    have HL := Lib.hid hlen
    clear hlen
    go_wp2_with fail
    go_loopw [5] (fun i wr => ∃ k j : Nat, k ≤ (digs x).length ∧ i = .int .i64 ((k : Int) - 1) ∧ (digs x).drop k = (digs y).drop k ∧ wr = w.drewN j) (fun i _ => (intOf i + 1).toNat)
    case atStart => exact ⟨(digs x).length, 0, Nat.le_refl _, rfl, by rw [List.drop_eq_nil_of_le (Nat.le_refl _), List.drop_eq_nil_of_le (by rw [HL.out]; exact Nat.le_refl _)], rfl⟩
    case round =>
      obtain ⟨k, j, hk, rfl, ht, rfl⟩ := hrel
      rcases Nat.eq_zero_or_pos k with rfl | hk0
      · have hxy : x = y := digs_inj (by simpa using ht)
        have HE := Lib.hid hxy
        clear hxy ht
        go_wp2_with fail
        go_ret
        exact ⟨by rw [cmpI_eq HE.out]; rfl, _, rfl⟩
      · obtain ⟨m, rfl⟩ : ∃ m, k = m + 1 := ⟨k - 1, by omega⟩
        have HT := Lib.hid ht
        clear ht
        have hlt : m < (digs x).length := by omega
        have hlt' : m < (digs y).length := by have := HL.out; omega
        obtain ⟨ad, hA, hb, hcx⟩ := hX'.at_ (j := m) hlt
        obtain ⟨ad', hA', hb', hcy⟩ := hY'.at_ (j := m) hlt'
        subst hA
        subst hA'
        obtain ⟨dx, hdx⟩ : ∃ d, (digs x).getD m 0 = d := ⟨_, rfl⟩
        obtain ⟨dy, hdy⟩ : ∃ d, (digs y).getD m 0 = d := ⟨_, rfl⟩
        rw [hdx] at hcx
        rw [hdy] at hcy
        have HDX := Lib.hid hdx
        have HDY := Lib.hid hdy
        clear hdx hdy
        have ei : ((m + 1 : Nat) : Int) - 1 = (m : Int) := by omega
        rw [ei]
        clear ei
        by_cases he : dx = dy
        · subst he
          go_wp2_with fail
          go_quiet (fail)
          go_wp2_with fail
          go_roundw
          case rel => exact ⟨m, _, by omega, rfl, drop_eq_pred hlt hlt' HT.out (by rw [HDX.out, HDY.out]), rfl⟩
          case measure => simp [intOf]
        · have hne : ((dx : Int) != (dy : Int)) = true := by rw [bne_iff_ne]; omega
          rcases Nat.lt_or_ge dx dy with h | h
          · have hres := cmpI_lt (cmp_digit (okD_digs x) hlt hlt' HT.out (by rw [HDX.out, HDY.out]; exact h))
            rw [val_digs, val_digs] at hres
            have HR := Lib.hid hres
            clear hres he
            go_wp2_with fail
            go_quiet (fail)
            go_wp2_with fail
            go_quiet ((go_at_call 71; exact (order_t _).mono fun _ _ hh => ⟨hh.1, _, hh.2.symm⟩))
            go_wp2_with fail
            go_ret
            refine ⟨by rw [HR.out]; rfl, ?_⟩
            simp only [World.drewN_drewN]
            exact ⟨_, rfl⟩
          · have h' : dy < dx := by omega
            have hdec : decide (dx < dy) = false := by simp; omega
            have hres := cmpI_gt (cmp_digit (okD_digs y) hlt' hlt HT.out.symm (by rw [HDX.out, HDY.out]; exact h'))
            rw [val_digs, val_digs] at hres
            have HR := Lib.hid hres
            clear hres he
            go_wp2_with fail
            go_quiet (fail)
            go_wp2_with fail
            go_quiet ((go_at_call 71; exact (order_f _).mono fun _ _ hh => ⟨hh.1, _, hh.2.symm⟩))
            go_wp2_with fail
            go_ret
            refine ⟨by rw [HR.out]; rfl, ?_⟩
            simp only [World.drewN_drewN]
            exact ⟨_, rfl⟩
  · have hlB : (((digs x).length : Int) != ((digs y).length : Int)) = true := by simp; omega
    rcases Nat.lt_or_ge (digs x).length (digs y).length with h | h
    · have hres := cmpI_lt (lt_of_len h)
      have HR := Lib.hid hres
      clear hres hlen
      go_wp2_with fail
      refine (order_t _).mono ?_
      rintro e w' ⟨rfl, rfl⟩
      go_wp2_with fail
      go_ret
      exact ⟨by rw [HR.out]; rfl, 0, rfl⟩
    · have h' : (digs y).length < (digs x).length := by omega
      have hdec : decide ((digs x).length < (digs y).length) = false := by simp; omega
      have hres := cmpI_gt (lt_of_len h')
      have HR := Lib.hid hres
      clear hres hlen
      go_wp2_with fail
      refine (order_f _).mono ?_
      rintro e w' ⟨rfl, rfl⟩
      go_wp2_with fail
      go_ret
      exact ⟨by rw [HR.out]; rfl, 0, rfl⟩
theorem cmp_any {A A' : Option Addr} {n n' c c' : Nat} {ds es : List Nat} {w : World} (hx : Raw w (.slice A n c) ds) (hy : Raw w (.slice A' n' c') es) :
    Calls Tryd.prog 54 #[.slice A n c, .slice A' n' c'] w fun e w' => e = .returned (.int .i64 (cmpI (val ds) (val es))) ∧ ∃ j, w' = w.drewN j := cmp_is hx hy (Lib.hid rfl) (Lib.hid rfl)

set_option maxRecDepth 100000 in
theorem sub_lt {A A' : Option Addr} {n n' c c' x y : Nat} {ds es : List Nat} {w : World} (hx : Raw w (.slice A n c) ds) (hy : Raw w (.slice A' n' c') es) (hvx : Hid (val ds = x)) (hvy : Hid (val es = y)) (h : x < y) :
    Calls Tryd.prog 31 #[.slice A n c, .slice A' n' c'] w fun e w' => e = .returned (.tuple #[.slice none 0 0, .bool false]) ∧ Below w.heap.size w w' := by
  have hc := cmp_is hx hy hvx hvy
  rw [cmpI_lt h] at hc
  have HC := Lib.hid hc
  clear hc h
  go_enter Tryd.func31, Tryd.ntmps31
  go_wp2_with fail
  refine HC.out.mono ?_
  rintro e w' ⟨rfl, j, rfl⟩
  go_wp2_with fail
  go_ret2
  exact ⟨rfl, below_drewN (Below.refl _ _) _⟩

set_option maxRecDepth 100000 in
theorem sub_ge {A A' : Option Addr} {n n' c c' x y : Nat} {ds es : List Nat} {w : World} (hx : Raw w (.slice A n c) ds) (hy : Raw w (.slice A' n' c') es) (hvx : Hid (val ds = x)) (hvy : Hid (val es = y)) (h : y ≤ x) :
    Calls Tryd.prog 31 #[.slice A n c, .slice A' n' c'] w fun e w' => ∃ B k d, e = .returned (.tuple #[.slice B k d, .bool true]) ∧ Num w' (.slice B k d) (x - y) ∧ Below w.heap.size w w' := by
  have hc := cmp_is hx hy hvx hvy
  have h0 : ∃ r : Int, cmpI x y = r ∧ 0 ≤ r := by
    rcases Nat.lt_or_ge y x with h1 | h1
    · exact ⟨1, cmpI_gt h1, by omega⟩
    · exact ⟨0, cmpI_eq (by omega), by omega⟩
  obtain ⟨r, hr, hr0⟩ := h0
  rw [hr] at hc
  have HC := Lib.hid hc
  have HH := Lib.hid h
  clear hc h hr
  go_enter Tryd.func31, Tryd.ntmps31
  go_wp2_with fail
  refine HC.out.mono ?_
  rintro e w' ⟨rfl, j, rfl⟩
  go_wp2_with fail
  refine (trim_is (hx.drewN j) hvx).mono ?_
  rintro e w' ⟨rfl, hX, rfl⟩
  go_wp2_with fail
  refine (trim_is (hy.drewN j) hvy).mono ?_
  rintro e w' ⟨rfl, hY, rfl⟩
  go_wp2_with fail
  refine (diff_any hX hY 1 1 (by omega) (by omega) (by rw [val_digs, val_digs]; have := HH.out; omega) ?_).mono ?_
  · rw [val_digs, val_digs]
    have h1 := lt_of_digs_length (Nat.le_refl (digs x).length)
    have h2 := Bs_mono (show (digs x).length ≤ max (digs x).length (digs y).length by omega)
    omega
  rintro e w' ⟨B, k, d, rfl, hN, hb⟩
  rw [val_digs, val_digs, Nat.one_mul, Nat.one_mul] at hN
  go_wp2_with fail
  go_ret2
  exact ⟨B, k, d, rfl, hN, (below_drewN (Below.refl _ _) j).trans hb⟩
end Go.Proofs.YtkhfadfjkmhpgaaDoor
