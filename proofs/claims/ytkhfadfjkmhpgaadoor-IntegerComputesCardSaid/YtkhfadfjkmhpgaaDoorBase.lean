/-
  The contracts of the reference's Trim, of Norm, FromUint, Word, Nats, ToN and N.
-/
import Derived.Test.YtkhfadfjkmhpgaaDoorTrim
namespace Go.Proofs.YtkhfadfjkmhpgaaDoor
open Go.RowKit

theorem ntrim_core (A : Option Addr) (n : Nat) (ds : List Nat) (c : Nat) (w : World) (h : Raw w (.slice A n c) ds) :
    Calls Tryd.prog 49 #[.slice A n c] w fun e w' => ∃ k, e = .returned (.slice A k c) ∧ k ≤ n ∧ digs (val ds) = ds.take k ∧ w = w' := by
  obtain ⟨hn, hlc⟩ := h.cap
  have hd := h.okD
  have hl := h.len
  subst hn
  have HC := Lib.hid (fun j (hj : j < ds.length) => h.at_ hj)
  clear h
  go_enter Tryd.func49, Tryd.ntmps49
  go_wp2
  go_loop [3] (fun n => ∃ k : Nat, k ≤ ds.length ∧ n = .int .i64 k ∧ val (ds.take k) = val ds) (fun n => (intOf n).toNat)
  case atStart => exact ⟨ds.length, Nat.le_refl _, rfl, by simp⟩
  case round =>
    obtain ⟨k, hk, rfl, hv⟩ := hrel
    have HV := Lib.hid hv
    clear hv
    rcases Nat.eq_zero_or_pos k with rfl | hk0
    · go_wp2
      go_ret
      exact ⟨0, rfl, by omega, digs_of_take hd (by omega) HV.out (.inl rfl), rfl⟩
    · have hlt : k - 1 < ds.length := by omega
      obtain ⟨ad, hA, hb, hc⟩ := HC.out (k - 1) hlt
      subst hA
      have hsucc := val_take_succ ds (k - 1) hlt
      rw [show k - 1 + 1 = k by omega] at hsucc
      have HS := Lib.hid hsucc
      clear hsucc
      generalize hdd : ds.getD (k - 1) 0 = d at *
      have HD := Lib.hid hdd
      clear hdd
      by_cases hz : d = 0
      · subst hz
        go_wp2
        go_round
        case rel => exact ⟨k - 1, by omega, by go_num, by rw [← HV.out, HS.out]; simp⟩
        case measure => simp [intOf]; omega
      · have hz' : ((d : Int) == 0) = false := by simpa using hz
        have HZ := Lib.hid hz
        clear hz
        go_wp2
        go_ret
        exact ⟨k, rfl, hk, digs_of_take hd hk HV.out (.inr (by rw [HD.out]; exact HZ.out)), rfl⟩

/-- trim returns the canonical digits, in the memory of its argument; the world stays. -/
theorem ntrim_any {A : Option Addr} {n c : Nat} {ds : List Nat} {w : World} (h : Raw w (.slice A n c) ds) :
    Calls Tryd.prog 49 #[.slice A n c] w fun e w' => e = .returned (.slice A (digs (val ds)).length c) ∧ Num w (.slice A (digs (val ds)).length c) (val ds) ∧ digs (val ds) = ds.take (digs (val ds)).length ∧ w = w' := by
  refine (ntrim_core A n ds c w h).mono ?_
  rintro e w' ⟨k, rfl, hk, hd, rfl⟩
  have hc := h.cap
  have hlen : (digs (val ds)).length = k := by rw [hd, List.length_take]; omega
  refine ⟨by rw [hlen], ?_, by rw [hlen]; exact hd, rfl⟩
  rw [hlen]; unfold Num; rw [hd]
  exact h.take (by omega)

/-- The same with a name for the value. -/
theorem ntrim_is {A : Option Addr} {n c x : Nat} {ds : List Nat} {w : World} (h : Raw w (.slice A n c) ds) (hv : Hid (val ds = x)) :
    Calls Tryd.prog 49 #[.slice A n c] w fun e w' => e = .returned (.slice A (digs x).length c) ∧ Num w (.slice A (digs x).length c) x ∧ w = w' := by
  refine (ntrim_any h).mono ?_
  rintro e w' ⟨rfl, hn, -, rfl⟩
  rw [hv.out] at hn ⊢
  exact ⟨rfl, hn, rfl⟩

set_option maxRecDepth 100000 in
/-- Norm: a copy of its own. -/
theorem norm_is {A : Option Addr} {n c x : Nat} {ds : List Nat} {w : World} (hx : Raw w (.slice A n c) ds) (hvx : Hid (val ds = x)) :
    Calls Tryd.prog 35 #[.slice A n c] w fun e w' => ∃ v, e = .returned v ∧ Grow w' w.heap.size v (digs x) ∧ Below w.heap.size w w' := by
  go_enter Tryd.func35, Tryd.ntmps35
  go_wp2_with fail
  refine (trim_is hx hvx).mono ?_
  rintro e w' ⟨rfl, hX, rfl⟩
  have hl := Raw.len hX
  go_wp2_with (at_builtin; refine wpList_append_digs rfl _ _ _ _ rfl Tryd.underlying26 Tryd.underlying26 w.heap.size rfl (grow_nil _ _) rfl hX (Nat.le_refl _) (by simpa using hl) ?_; intro v' w1 hg hgr hb)
  rw [List.nil_append] at hg
  go_wp2_with fail
  go_ret
  exact ⟨_, rfl, hg, hb⟩

theorem val_two (a b : Nat) : val [a, b] = a + 4294967296 * b := by simp [val]
theorem okD_two {a b : Nat} (ha : a < 4294967296) (hb : b < 4294967296) : OkD [a, b] := okD_cons.2 ⟨ha, okD_cons.2 ⟨hb, okD_nil⟩⟩
theorem okD_one {a : Nat} (ha : a < 4294967296) : OkD [a] := okD_cons.2 ⟨ha, okD_nil⟩
/-- A literal slice lies in a block of its own. -/
theorem own_lit (w : World) (cs : Array Value) (ds : List Nat) (h : cs.toList = ds.map dv) : Own (w.alloc (.cells cs 68)) w.heap.size ds :=
  ⟨[], by rw [heap_alloc_new, List.append_nil, ← h]⟩

set_option maxRecDepth 100000 in
theorem fromuint_any (u : Nat) (hu : u < 18446744073709551616) (w : World) :
    Calls Tryd.prog 30 #[.int .u64 (u : Int)] w fun e w' => ∃ B k d, e = .returned (.slice B k d) ∧ Num w' (.slice B k d) u ∧ Below w.heap.size w w' := by
  have hown : Own (w.alloc (.cells #[.int .u32 ((u : Int) % 4294967296), .int .u32 ((u : Int) / 4294967296)] 68)) w.heap.size [u % 4294967296, u / 4294967296] := own_lit w _ _ (by simp [dv])
  have hraw := hown.raw_all (okD_two (by omega) (by omega)) (by simp) 2 2 rfl (Nat.le_refl _)
  have hv : val [u % 4294967296, u / 4294967296] = u := by rw [val_two]; omega
  have HV := Lib.hid hv
  have hb : Below w.heap.size w (w.alloc (.cells #[.int .u32 ((u : Int) % 4294967296), .int .u32 ((u : Int) / 4294967296)] 68)) := (Below.refl _ _).alloc (Nat.le_refl _) _
  clear hv hown
  go_enter Tryd.func30, Tryd.ntmps30
  go_wp2_with fail
  refine (trim_is hraw HV).mono ?_
  rintro e w' ⟨rfl, hN, rfl⟩
  go_wp2_with fail
  go_ret
  exact ⟨_, _, _, rfl, hN, hb⟩

set_option maxRecDepth 100000 in
theorem word_any (u : Nat) (hu : u < 18446744073709551616) (w : World) :
    Calls Tryd.prog 43 #[.int .u64 (u : Int)] w fun e w' => ∃ B k d, e = .returned (.slice B k d) ∧ Num w' (.slice B k d) u ∧ Below w.heap.size w w' := by
  have hown : Own (w.alloc (.cells #[.int .u32 ((u : Int) % 4294967296), .int .u32 ((u : Int) / 4294967296)] 68)) w.heap.size [u % 4294967296, u / 4294967296] := own_lit w _ _ (by simp [dv])
  have hraw := hown.raw_all (okD_two (by omega) (by omega)) (by simp) 2 2 rfl (Nat.le_refl _)
  have hv : val [u % 4294967296, u / 4294967296] = u := by rw [val_two]; omega
  have HV := Lib.hid hv
  have hb : Below w.heap.size w (w.alloc (.cells #[.int .u32 ((u : Int) % 4294967296), .int .u32 ((u : Int) / 4294967296)] 68)) := (Below.refl _ _).alloc (Nat.le_refl _) _
  clear hv hown
  go_enter Tryd.func43, Tryd.ntmps43
  go_wp2_with fail
  refine (ntrim_is hraw HV).mono ?_
  rintro e w' ⟨rfl, hN, rfl⟩
  go_wp2_with fail
  go_ret
  exact ⟨_, _, _, rfl, hN, hb⟩

set_option maxRecDepth 100000 in
/-- ToN: a copy. -/
theorem ton_any {A : Option Addr} {n c : Nat} {ds : List Nat} {w : World} (hx : Raw w (.slice A n c) ds) :
    Calls Tryd.prog 13 #[.slice A n c] w fun e w' => ∃ v, e = .returned v ∧ Grow w' w.heap.size v ds ∧ Below w.heap.size w w' := by
  have hl := Raw.len hx
  go_enter Tryd.func13, Tryd.ntmps13
  go_wp2_with (at_builtin; refine wpList_append_digs rfl _ _ _ _ rfl Tryd.underlying26 Tryd.underlying30 w.heap.size rfl (grow_empty w) rfl (raw_alloc hx _) (by simp) (by simpa using hl) ?_; intro v' w1 hg hgr hb)
  rw [List.nil_append] at hg
  have hb2 := (below_alloc w (.cells #[] 68)).trans hb
  go_wp2_with fail
  go_ret
  exact ⟨_, rfl, hg, hb2⟩

set_option maxRecDepth 100000 in
/-- N: the canonical digits, in memory of their own. -/
theorem n_is {A : Option Addr} {n c x : Nat} {ds : List Nat} {w : World} (hx : Raw w (.slice A n c) ds) (hvx : Hid (val ds = x)) :
    Calls Tryd.prog 27 #[.slice A n c] w fun e w' => ∃ B k d, e = .returned (.slice B k d) ∧ Num w' (.slice B k d) x ∧ Below w.heap.size w w' := by
  have hl := Raw.len hx
  go_enter Tryd.func27, Tryd.ntmps27
  go_wp2_with (at_builtin; refine wpList_append_digs rfl _ _ _ _ rfl Tryd.underlying25 Tryd.underlying26 w.heap.size rfl (grow_empty w) rfl (raw_alloc hx _) (by simp) (by simpa using hl) ?_; intro v' w1 hg hgr hb)
  rw [List.nil_append] at hg
  have hb2 := (below_alloc w (.cells #[] 68)).trans hb
  obtain ⟨A1, c1, rfl⟩ := hg.form
  have hr := hg.raw hl
  go_wp2_with fail
  refine (ntrim_is hr hvx).mono ?_
  rintro e w' ⟨rfl, hN, rfl⟩
  go_wp2_with fail
  go_ret
  exact ⟨_, _, _, rfl, hN, hb2⟩

set_option maxRecDepth 100000 in
/-- Nats: a copy with zeros at the end. -/
theorem nats_any {A : Option Addr} {n c : Nat} {ds : List Nat} {w : World} (hx : Raw w (.slice A n c) ds) (z : Nat) (hz : z ≤ 1000) (hl : ds.length < 999999000) :
    Calls Tryd.prog 26 #[.slice A n c, .int .i64 (z : Int)] w fun e w' => ∃ v, e = .returned v ∧ Grow w' w.heap.size v (ds ++ List.replicate (z % 3) 0) ∧ Below w.heap.size w w' := by
  go_enter Tryd.func26, Tryd.ntmps26
  go_wp2_with (at_builtin; refine wpList_append_digs rfl _ _ _ _ rfl Tryd.underlying26 Tryd.underlying30 w.heap.size rfl (grow_empty w) rfl (raw_alloc hx _) (by simp) (by simp; omega) ?_; intro v' w1 hg hgr hb)
  rw [List.nil_append] at hg
  have hb2 := (below_alloc w (.cells #[] 68)).trans hb
  clear hgr hb
  go_wp2_with fail
  go_loopw [5, 6] (fun o i wr => ∃ k : Nat, i = .int .i64 k ∧ k ≤ z % 3 ∧ Grow wr w.heap.size o (ds ++ List.replicate k 0) ∧ Below w.heap.size w wr) (fun _ i _ => z % 3 - (intOf i).toNat)
  case atStart => exact ⟨0, rfl, Nat.zero_le _, by simpa using hg, hb2⟩
  case round =>
    obtain ⟨k, rfl, hk, hgk, hbk⟩ := hrel
    rcases Nat.lt_or_ge k (z % 3) with hlt | hge
    · have hlit := (own_lit wr #[.int .u32 0] [0] rfl).raw_all (okD_one (by omega)) (by simp) 1 1 rfl (Nat.le_refl _)
      have hbs := hbk.size
      go_wp2_with (at_builtin; refine wpList_append_digs rfl _ _ _ _ rfl Tryd.underlying26 Tryd.underlying26 w.heap.size rfl (grow_alloc hgk _) rfl hlit (by simp; omega) (by simp; omega) ?_; intro v2 w2 hg2 hgr2 hb2')
      have hb3 := (hbk.alloc hbs (.cells #[.int .u32 0] 68)).trans hb2'
      go_wp2_with fail
      go_roundw
      case rel => exact ⟨k + 1, by go_num, by omega, by rw [List.replicate_succ', ← List.append_assoc]; exact hg2, hb3⟩
      case measure => simp [intOf]; omega
    · obtain rfl : k = z % 3 := by omega
      go_wp2_with fail
      go_ret
      exact ⟨_, rfl, hgk, hbk⟩
end Go.Proofs.YtkhfadfjkmhpgaaDoor
