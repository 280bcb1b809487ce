/-
  The contracts of the reference's Cmp, Sum and Less.
-/
import Derived.Test.YtkhfadfjkmhpgaaDoorLeft
namespace Go.Proofs.YtkhfadfjkmhpgaaDoor
open Go.RowKit

theorem sign_neg {z : Int} (h : z < 0) (w : World) : Calls Tryd.prog 57 #[.int .i64 z] w fun e w' => e = .returned (.int .i64 (-1)) ∧ w = w' := by
  have h2 : ¬ 0 < z := by omega
  go_enter Tryd.func57, Tryd.ntmps57
  go_wp2
  go_ret
  exact ⟨rfl, rfl⟩
theorem sign_pos {z : Int} (h : 0 < z) (w : World) : Calls Tryd.prog 57 #[.int .i64 z] w fun e w' => e = .returned (.int .i64 1) ∧ w = w' := by
  go_enter Tryd.func57, Tryd.ntmps57
  go_wp2
  go_ret
  exact ⟨rfl, rfl⟩

set_option maxRecDepth 100000 in
set_option maxHeartbeats 800000 in
theorem ncmp_is {A A' : Option Addr} {n n' c c' x y : Nat} {w : World} (hX : Num w (.slice A n c) x) (hY : Num w (.slice A' n' c') y) :
    Calls Tryd.prog 37 #[.slice A n c, .slice A' n' c'] w fun e w' => e = .returned (.int .i64 (cmpI x y)) ∧ ∃ j, w' = w.drewN j := by
  have hn := (Raw.cap hX).1
  have hn' := (Raw.cap hY).1
  subst hn
  subst hn'
  have hX' : Raw w (.slice A (digs x).length c) (digs x) := hX
  have hY' : Raw w (.slice A' (digs y).length c') (digs y) := hY
  have hl := hX'.len
  have hl' := hY'.len
  go_enter Tryd.func37, Tryd.ntmps37
  by_cases hlen : (digs x).length = (digs y).length
  · have hlB : (((digs x).length : Int) != ((digs y).length : Int)) = false := by simp [hlen]
    have HL := Lib.hid hlen
    clear hlen
    go_wp2_with fail
    go_loopw [5] (fun i wr => ∃ k j : Nat, k ≤ (digs x).length ∧ i = .int .i64 ((k : Int) - 1) ∧ (digs x).drop k = (digs y).drop k ∧ wr = w.drewN j) (fun i _ => (intOf i + 1).toNat)
    case atStart => exact ⟨(digs x).length, 0, Nat.le_refl _, rfl, by rw [List.drop_eq_nil_of_le (Nat.le_refl _), List.drop_eq_nil_of_le (by rw [HL.out]; exact Nat.le_refl _)], rfl⟩
    case round =>
      obtain ⟨k, j, hk, rfl, ht, rfl⟩ := hrel
      rcases Nat.eq_zero_or_pos k with rfl | hk0
      · have hxy : x = y := digs_inj (by simpa using ht)
        have HE := Lib.hid hxy
        clear hxy ht
        go_wp2_with fail
        go_ret
        exact ⟨by rw [cmpI_eq HE.out]; rfl, _, rfl⟩
      · obtain ⟨m, rfl⟩ : ∃ m, k = m + 1 := ⟨k - 1, by omega⟩
        have HT := Lib.hid ht
        clear ht
        have hlt : m < (digs x).length := by omega
        have hlt' : m < (digs y).length := by have := HL.out; omega
        obtain ⟨ad, hA, hb, hcx⟩ := hX'.at_ (j := m) hlt
        obtain ⟨ad', hA', hb', hcy⟩ := hY'.at_ (j := m) hlt'
        subst hA
        subst hA'
        obtain ⟨dx, hdx⟩ : ∃ d, (digs x).getD m 0 = d := ⟨_, rfl⟩
        obtain ⟨dy, hdy⟩ : ∃ d, (digs y).getD m 0 = d := ⟨_, rfl⟩
        rw [hdx] at hcx
        rw [hdy] at hcy
        have HDX := Lib.hid hdx
        have HDY := Lib.hid hdy
        clear hdx hdy
        have ei : ((m + 1 : Nat) : Int) - 1 = (m : Int) := by omega
        rw [ei]
        clear ei
        by_cases he : dx = dy
        · subst he
          have hd1 : decide (dx < dx) = false := by simp
          go_wp2_with fail
          go_quiet (fail)
          go_wp2_with fail
          go_quiet (fail)
          go_wp2_with fail
          go_roundw
          case rel => exact ⟨m, _, by omega, rfl, drop_eq_pred hlt hlt' HT.out (by rw [HDX.out, HDY.out]), rfl⟩
          case measure => simp [intOf]
        · rcases Nat.lt_or_ge dx dy with h | h
          · have hres := cmpI_lt (cmp_digit (okD_digs x) hlt hlt' HT.out (by rw [HDX.out, HDY.out]; exact h))
            rw [val_digs, val_digs] at hres
            have HR := Lib.hid hres
            clear hres he
            have hd1 : decide (dy < dx) = false := by rw [decide_eq_false_iff_not]; omega
            go_wp2_with fail
            go_quiet (fail)
            go_wp2_with fail
            go_quiet (fail)
            go_wp2_with fail
            go_ret
            refine ⟨by rw [HR.out]; rfl, ?_⟩
            simp only [World.drewN_drewN]
            exact ⟨_, rfl⟩
          · have h' : dy < dx := by omega
            have hres := cmpI_gt (cmp_digit (okD_digs y) hlt' hlt HT.out.symm (by rw [HDX.out, HDY.out]; exact h'))
            rw [val_digs, val_digs] at hres
            have HR := Lib.hid hres
            clear hres he h
            go_wp2_with fail
            go_quiet (fail)
            go_wp2_with fail
            go_ret
            refine ⟨by rw [HR.out]; rfl, ?_⟩
            simp only [World.drewN_drewN]
            exact ⟨_, rfl⟩
  · have hlB : (((digs x).length : Int) != ((digs y).length : Int)) = true := by rw [bne_iff_ne]; omega
    rcases Nat.lt_or_ge (digs x).length (digs y).length with h | h
    · have hres := cmpI_lt (lt_of_len h)
      have HR := Lib.hid hres
      clear hres hlen
      go_wp2_with fail
      refine (sign_neg (by omega) _).mono ?_
      rintro e w' ⟨rfl, rfl⟩
      go_wp2_with fail
      go_ret
      exact ⟨by rw [HR.out]; rfl, 0, rfl⟩
    · have h' : (digs y).length < (digs x).length := by omega
      have hres := cmpI_gt (lt_of_len h')
      have HR := Lib.hid hres
      clear hres hlen h
      go_wp2_with fail
      refine (sign_pos (by omega) _).mono ?_
      rintro e w' ⟨rfl, rfl⟩
      go_wp2_with fail
      go_ret
      exact ⟨by rw [HR.out]; rfl, 0, rfl⟩

theorem add32_any (x y cr : Nat) (hx : x < 4294967296) (hy : y < 4294967296) (hc : cr ≤ 1) (w : World) : Calls Tryd.prog 56 #[.int .u32 (x : Int), .int .u32 (y : Int), .int .u32 (cr : Int)] w fun e w' => e = .returned (.tuple #[.int .u32 (((x + y + cr) % 4294967296 : Nat) : Int), .int .u32 (((x + y + cr) / 4294967296 : Nat) : Int)]) ∧ w = w' := by
  have h1 : ((x : Int) + (y : Int) + (cr : Int)) % 4294967296 = (((x + y + cr) % 4294967296 : Nat) : Int) := by omega
  have h2 : ((x : Int) + (y : Int) + (cr : Int)) / 4294967296 = (((x + y + cr) / 4294967296 : Nat) : Int) := by omega
  have H1 := Lib.hid h1
  have H2 := Lib.hid h2
  clear h1 h2
  go_enter Tryd.func56, Tryd.ntmps56
  go_wp2
  go_ret2
  rw [← H1.out, ← H2.out]
  exact ⟨rfl, rfl⟩

set_option maxRecDepth 100000 in
set_option maxHeartbeats 1600000 in
theorem nsum_is {A A' : Option Addr} {n n' c c' x y : Nat} {w : World} (hX : Num w (.slice A n c) x) (hY : Num w (.slice A' n' c') y) (hn9 : n < 1000000000) (hn9' : n' < 1000000000) :
    Calls Tryd.prog 36 #[.slice A n c, .slice A' n' c'] w fun e w' => ∃ B k d, e = .returned (.slice B k d) ∧ Num w' (.slice B k d) (x + y) ∧ Below w.heap.size w w' := by
  have hlx := (Raw.cap hX).1
  have hly := (Raw.cap hY).1
  obtain ⟨m, hm⟩ : ∃ m, m = max n n' := ⟨_, rfl⟩
  have hm1 : m < 1000000000 := by omega
  obtain ⟨w1, hmk, hown, hb, hsz⟩ := make_row Tryd.underlying25 (m + 1) (by omega) w
  have hmax : ∀ W : World, (Builtin.max_ #[3, 3] 3 #[.int .i64 (n : Int), .int .i64 (n' : Int)]).run Tryd.prog W = .ok (.int .i64 (m : Int)) W := fun W => by
    rw [run_max_int2]; subst hm; congr 2; split <;> omega
  rw [Int.natCast_add, Int.natCast_one] at hmk
  have hmn : n ≤ m := by omega
  have hmn' : n' ≤ m := by omega
  have HLX := Lib.hid hlx
  have HLY := Lib.hid hly
  have HO := Lib.hid hown
  clear hm hown hsz hlx hly
  go_enter Tryd.func36, Tryd.ntmps36
  go_wp2_with fail
  go_loopw [7, 8] (fun cr i wr => ∃ (k carry : Nat) (zs : List Nat), i = .int .i64 k ∧ cr = .int .u32 carry ∧ k ≤ m ∧ carry ≤ 1 ∧ zs.length = m + 1 ∧ OkD zs ∧ Own wr w.heap.size zs ∧ Below w.heap.size w wr ∧
      val (zs.take k) + Bs k * carry = val ((digs x).take k) + val ((digs y).take k)) (fun _ i _ => m - (intOf i).toNat)
  case atStart => exact ⟨0, 0, _, rfl, rfl, Nat.zero_le _, by omega, by simp, okD_replicate _ (by omega), HO.out, hb, by simp [val]⟩
  case round =>
    obtain ⟨k, carry, zs, rfl, rfl, hk, hcar, hzl, hzd, hzo, hbr, hv⟩ := hrel
    have HV := Lib.hid hv
    have HZL := Lib.hid hzl
    clear hv hzl
    have hcell := hzo.cell (j := k) (by have := HZL.out; omega)
    have hfr := hzo.frozen k
    rcases Nat.lt_or_ge k m with hlt | hge
    · obtain ⟨dx, hdx⟩ : ∃ d, (digs x).getD k 0 = d := ⟨_, rfl⟩
      obtain ⟨dy, hdy⟩ : ∃ d, (digs y).getD k 0 = d := ⟨_, rfl⟩
      have bx : dx < 4294967296 := by rw [← hdx]; exact okD_getD (okD_digs _) k
      have by_ : dy < 4294967296 := by rw [← hdy]; exact okD_getD (okD_digs _) k
      have hfin : OkD (zs.set k ((dx + dy + carry) % 4294967296)) ∧ val ((zs.set k ((dx + dy + carry) % 4294967296)).take (k + 1)) + Bs (k + 1) * ((dx + dy + carry) / 4294967296) = val ((digs x).take (k + 1)) + val ((digs y).take (k + 1)) := by
        refine ⟨okD_set hzd k (Nat.mod_lt _ (by omega)), ?_⟩
        rw [Bs_succ, val_take_set (by have := HZL.out; omega), val_take_succ', val_take_succ', hdx, hdy, show dx + dy + carry = carry + (dx + dy) by omega]
        exact add_round HV.out
      have HFIN := Lib.hid hfin
      have hadd := add32_any dx dy carry bx by_ hcar
      have HADD := Lib.hid hadd
      clear hadd hfin
      have hxc : (k < n ∧ ∃ ad, A = some ad ∧ wr.cell? (ad.add k) = some (.int .u32 (dx : Int))) ∨ (n ≤ k ∧ dx = 0) := by
        rcases Nat.lt_or_ge k n with h | h
        · obtain ⟨ad, e1, _, e3⟩ := (Num.below hX hbr).at_ (j := k) (by rw [← HLX.out]; exact h)
          exact .inl ⟨h, ad, e1, by rw [e3, hdx]⟩
        · exact .inr ⟨h, by rw [← hdx]; exact getD_of_ge (by rw [← HLX.out]; exact h)⟩
      have hyc : (k < n' ∧ ∃ ad, A' = some ad ∧ wr.cell? (ad.add k) = some (.int .u32 (dy : Int))) ∨ (n' ≤ k ∧ dy = 0) := by
        rcases Nat.lt_or_ge k n' with h | h
        · obtain ⟨ad, e1, _, e3⟩ := (Num.below hY hbr).at_ (j := k) (by rw [← HLY.out]; exact h)
          exact .inl ⟨h, ad, e1, by rw [e3, hdy]⟩
        · exact .inr ⟨h, by rw [← hdy]; exact getD_of_ge (by rw [← HLY.out]; exact h)⟩
      clear hdx hdy
      obtain ⟨sm, hsm⟩ : ∃ q, (dx + dy + carry) % 4294967296 = q := ⟨_, rfl⟩
      obtain ⟨cn, hcn⟩ : ∃ q, (dx + dy + carry) / 4294967296 = q := ⟨_, rfl⟩
      have hcn1 : cn ≤ 1 := by omega
      rw [hsm, hcn] at HADD HFIN
      clear hsm hcn
      rcases hxc with ⟨hkx, ad, rfl, hcx⟩ | ⟨hkx, rfl⟩ <;> rcases hyc with ⟨hky, ad', rfl, hcy⟩ | ⟨hky, rfl⟩
      all_goals
        go_wp2_with fail
        refine (HADD.out _).mono ?_
        rintro e w' ⟨rfl, rfl⟩
        go_wp2_with fail
        go_roundw
        case rel => exact ⟨k + 1, cn, _, by go_num, rfl, by omega, hcn1, by rw [List.length_set]; exact HZL.out, HFIN.out.1, hzo.set k _, hbr.setCell (Nat.le_refl _) _, HFIN.out.2⟩
        case measure => simp [intOf]; omega
    · obtain rfl : m = k := by omega
      have hfin := hzo.set m carry
      have hraw := hfin.raw_all (okD_set hzd m (by omega)) (by rw [List.length_set, HZL.out]; omega) (m + 1) (m + 1) (by rw [List.length_set]; exact HZL.out.symm) (Nat.le_refl _)
      have hbf := hbr.setCell (p := ⟨w.heap.size, m, none⟩) (Nat.le_refl _) (.int .u32 (carry : Int))
      have hval : val (zs.set m carry) = x + y := by
        have e := val_take_set (ds := zs) (k := m) (by have := HZL.out; omega) carry
        rw [val_take_all (by rw [List.length_set, HZL.out]; omega)] at e
        rw [e, HV.out, val_take_all (by rw [← HLX.out]; exact hmn), val_take_all (by rw [← HLY.out]; exact hmn'), val_digs, val_digs]
      have HVAL := Lib.hid hval
      clear hval
      go_wp2_with fail
      refine (ntrim_is hraw HVAL).mono ?_
      rintro e w' ⟨rfl, hN, rfl⟩
      go_wp2_with fail
      go_ret
      exact ⟨_, _, _, rfl, hN, hbf⟩

end Go.Proofs.YtkhfadfjkmhpgaaDoor
