/-
  K2, K3 in one text.
-/
import Derived.Test.YthmmnmajkeoaaabGreatDoorOK1
import Derived.Laws.IdiomStrings
import Derived.Deep.RegionHeld3
import Derived.Deep.DrawnRows
namespace Go.Proofs.YthmmnmajkeoaaabGreatDoor
open Go.RowKit

section
variable {w w' : World} {v : Value} {ds : List Nat}
end

section
variable {w w' : World} {g : Nat} {ds : List Nat}
end

section
variable {w w' : World} {B : Nat} {v : Value} {ds : List Nat}
end

end Go.Proofs.YthmmnmajkeoaaabGreatDoor
namespace Go.Proofs.YthmmnmajkeoaaabGreatDoor

end Go.Proofs.YthmmnmajkeoaaabGreatDoor
namespace Go.Proofs.YthmmnmajkeoaaabGreatDoor
open Go.RowKit

theorem ret_i64 {a b : Int} (h : a = b) : Ending.returned (.int .i64 a) = .returned (.int .i64 b) := by rw [h]

/-- Block b is a tape over ints that lie in other blocks. -/
def Tape (w : World) (b : Nat) : Prop := ∃ (A : Option Addr) (n c t : Nat), w.heap[b]? = some (.cells #[.slice A n c, .int .i64 (t : Int)] 43 (0, 0)) ∧ n ≤ 400 ∧ n ≤ c ∧ t ≤ 1000 ∧
  ∀ j, j < n → ∃ ad z, A = some ad ∧ ad.block < b ∧ w.cell? (ad.add j) = some (.int .i64 z)

theorem Tape.keep {w w' : World} {b B : Nat} (h : Tape w b) (hb : Below B w w') (hB : b < B) : Tape w' b := by
  obtain ⟨A, n, c, t, h1, h2, h3, h4, h5⟩ := h
  refine ⟨A, n, c, t, (hb.block b hB).trans h1, h2, h3, h4, fun j hj => ?_⟩
  obtain ⟨ad, z, e1, e2, e4⟩ := h5 j hj
  exact ⟨ad, z, e1, e2, (hb.cell (by rw [addr_add_block]; omega)).trans e4⟩

theorem tape_step {w : World} {b : Nat} {A : Option Addr} {n c t : Nat} (h1 : w.heap[b]? = some (.cells #[.slice A n c, .int .i64 (t : Int)] 43 (0, 0))) (h2 : n ≤ 400) (h3 : n ≤ c) (ht : t < n)
    (h5 : ∀ j, j < n → ∃ ad z, A = some ad ∧ ad.block < b ∧ w.cell? (ad.add j) = some (.int .i64 z)) : Tape (w.setCell ⟨b, 1, none⟩ (.int .i64 ((t : Int) + 1))) b := by
  refine ⟨A, n, c, t + 1, ?_, h2, h3, by omega, fun j hj => ?_⟩
  · rw [heap_setCell_same w b 1 _ _ _ h1]; simp
  · obtain ⟨ad, z, e1, e2, e4⟩ := h5 j hj
    refine ⟨ad, z, e1, e2, ?_⟩
    rw [World.cell?_of_block (Below.heap_setCell w _ _ _ (by rw [addr_add_block]; exact Nat.ne_of_lt e2))]
    exact e4
theorem only_setCell1 {w : World} (b : Nat) (u : Value) (j : Nat) : w.grownBy ((w.drewN j).setCell ⟨b, 1, none⟩ u) (some b) :=
  ⟨rfl, rfl, rfl, by simp [World.setCell], fun i _ hne => Below.heap_setCell (w.drewN j) ⟨b, 1, none⟩ u i (by rintro rfl; exact hne rfl)⟩

set_option maxRecDepth 100000 in
set_option maxHeartbeats 400000 in
theorem next_any {b : Nat} {w : World} (m : Nat) (hm : 0 < m) (hm2 : m ≤ 1000000) (h : Tape w b) :
    Calls Tryz.prog 6 #[.pointer (some ⟨b, 0, none⟩), .int .i64 (m : Int)] w fun e w' => ∃ r : Nat, e = .returned (.int .i64 (r : Int)) ∧ r < m ∧ Tape w' b ∧ w.grownBy w' (some b) := by
  obtain ⟨A, n, c, t, hblk, hn, hc, ht, hcells⟩ := h
  have c0 : w.cell? ⟨b, 0, none⟩ = some (.slice A n c) := cell_of_row w b 0 _ _ _ hblk
  have c1 : w.cell? ⟨b, 1, none⟩ = some (.int .i64 (t : Int)) := cell_of_row w b 1 _ _ _ hblk
  have f1 : w.frozen? ⟨b, 1, none⟩ = false := frozen_of_row w b 1 _ _ hblk
  rcases Nat.lt_or_ge t n with hlt | hge
  · obtain ⟨ad, z, hA, hb, hcz⟩ := hcells t hlt
    subst hA
    have hst := tape_step hblk hn hc hlt hcells
    have HB := Lib.hid hblk
    have HC := Lib.hid hcells
    clear hblk hcells
    have hz1 : z.tmod (m : Int) < (m : Int) := Int.tmod_lt_of_pos z (by omega)
    have hz2 : -(m : Int) < z.tmod (m : Int) := Int.lt_tmod_of_pos z (by omega)
    by_cases hneg : z.tmod (m : Int) < 0
    · go_enter Tryz.func6, Tryz.ntmps6
      go_wp2_with fail
      go_quiet (fail)
      go_wp2_with fail
      go_quiet (fail)
      go_wp2_with fail
      go_ret
      exact ⟨(z.tmod (m : Int) + (m : Int)).toNat, ret_i64 (by omega), by omega, hst, only_setCell1 b _ _⟩
    · go_enter Tryz.func6, Tryz.ntmps6
      go_wp2_with fail
      go_quiet (fail)
      go_wp2_with fail
      go_quiet (fail)
      go_wp2_with fail
      go_ret
      exact ⟨(z.tmod (m : Int)).toNat, ret_i64 (by omega), by omega, hst, only_setCell1 b _ _⟩
  · have HB := Lib.hid hblk
    have HC := Lib.hid hcells
    clear hblk hcells
    go_enter Tryz.func6, Tryz.ntmps6
    go_wp2_with fail
    go_quiet (fail)
    go_wp2_with fail
    go_ret
    exact ⟨0, rfl, hm, ⟨A, n, c, t, HB.out, hn, hc, ht, HC.out⟩, ⟨rfl, rfl, rfl, Nat.le_refl _, fun _ _ _ => rfl⟩⟩
end Go.Proofs.YthmmnmajkeoaaabGreatDoor
namespace Go.Proofs.YthmmnmajkeoaaabGreatDoor
open Go.RowKit

theorem only_trans {a b c : World} {g : Option Nat} (h : a.grownBy b g) (k : b.grownBy c g) : a.grownBy c g :=
  ⟨k.os.trans h.os, k.tape.trans h.tape, k.output.trans h.output, Nat.le_trans h.size k.size, fun i hi hne => (k.block i (Nat.lt_of_lt_of_le hi h.size) hne).trans (h.block i hi hne)⟩
theorem only_below {a b c : World} {g : Option Nat} {B : Nat} (h : a.grownBy b g) (k : Below B b c) (hB : a.heap.size ≤ B) : a.grownBy c g :=
  ⟨k.os.trans h.os, k.tape.trans h.tape, k.output.trans h.output, Nat.le_trans h.size k.size, fun i hi hne => (k.block i (Nat.lt_of_lt_of_le hi hB)).trans (h.block i hi hne)⟩
/-- The slice of ints that a law is called with. -/
def Ints (w : World) (v : Value) : Prop := ∃ (A : Option Addr) (n c : Nat), v = .slice A n c ∧ n ≤ c ∧ n ≤ 9223372036854775807 ∧ ∀ j, j < n → ∃ ad z, A = some ad ∧ ad.block < w.heap.size ∧ w.cell? (ad.add j) = some (.int .i64 z)

set_option maxRecDepth 100000 in
theorem new_any {v : Value} {w : World} (h : Ints w v) :
    Calls Tryz.prog 4 #[v] w fun e w' => e = .returned (.pointer (some ⟨w.heap.size, 0, none⟩)) ∧ Tape w' w.heap.size ∧ Below w.heap.size w w' ∧ w'.heap.size = w.heap.size + 1 := by
  obtain ⟨A, n, c, rfl, hn, hc, hcell⟩ := h
  have HC := Lib.hid hcell
  clear hcell
  by_cases h4 : n ≤ 400
  · go_enter Tryz.func4, Tryz.ntmps4
    go_wp2_with fail
    go_ret
    refine ⟨rfl, ⟨A, n, c, 0, heap_alloc_new w _, h4, hn, by omega, fun j hj => ?_⟩, below_alloc w _, by simp⟩
    obtain ⟨ad, z, e1, e2, e3⟩ := HC.out j hj
    exact ⟨ad, z, e1, e2, (World.cell?_alloc_lt w _ _ (by rw [addr_add_block]; exact e2)).trans e3⟩
  · go_enter Tryz.func4, Tryz.ntmps4
    go_wp2_with fail
    go_ret
    refine ⟨rfl, ⟨A, 400, c, 0, heap_alloc_new w _, by omega, by omega, by omega, fun j hj => ?_⟩, below_alloc w _, by simp⟩
    obtain ⟨ad, z, e1, e2, e3⟩ := HC.out j (by omega)
    exact ⟨ad, z, e1, e2, (World.cell?_alloc_lt w _ _ (by rw [addr_add_block]; exact e2)).trans e3⟩

end Go.Proofs.YthmmnmajkeoaaabGreatDoor
namespace Go.Proofs.YthmmnmajkeoaaabGreatDoor
open Go.RowKit

end Go.Proofs.YthmmnmajkeoaaabGreatDoor
namespace Go.Proofs.YthmmnmajkeoaaabGreatDoor
open Go.RowKit

theorem add_round {a b x y carry dx dy : Nat} (h : a + b * carry = x + y) :
    a + b * ((carry + (dx + dy)) % 4294967296) + 4294967296 * b * ((carry + (dx + dy)) / 4294967296) = x + b * dx + (y + b * dy) := by
  have e := Nat.mod_add_div (carry + (dx + dy)) 4294967296
  have : b * ((carry + (dx + dy)) % 4294967296) + 4294967296 * b * ((carry + (dx + dy)) / 4294967296) = b * (carry + (dx + dy)) := by
    conv => rhs; rw [← e]
    rw [Nat.mul_add, Nat.mul_comm 4294967296 b, Nat.mul_assoc]
  rw [Nat.add_assoc, this, Nat.mul_add, Nat.mul_add]; omega

set_option maxRecDepth 100000 in
set_option maxHeartbeats 800000 in
theorem add_any {A A' : Option Addr} {n n' c c' : Nat} {ds es : List Nat} {w : World} (hx : Raw w (.slice A n c) ds) (hy : Raw w (.slice A' n' c') es) (hdl : ds.length < 1000000000) (hel : es.length < 1000000000) :
    Calls Tryz.prog 126 #[.slice A n c, .slice A' n' c'] w fun e w' => ∃ B k d, e = .returned (.slice B k d) ∧ Num w' (.slice B k d) (val ds + val es) ∧ Below w.heap.size w w' := by
  have hxl : (digs (val ds)).length ≤ ds.length := digs_length_le (val_lt hx.okD)
  have hyl : (digs (val es)).length ≤ es.length := digs_length_le (val_lt hy.okD)
  obtain ⟨m, hm⟩ : ∃ m, m = max (digs (val ds)).length (digs (val es)).length := ⟨_, rfl⟩
  have hm1 : m < 1000000000 := by omega
  obtain ⟨w1, hmk, hown, hb, hsz⟩ := make_row Tryz.underlying59 (m + 1) (by omega) w
  have hmax : ∀ W : World, (Builtin.max_ #[3, 3] 3 #[.int .i64 ((digs (val ds)).length : Int), .int .i64 ((digs (val es)).length : Int)]).run Tryz.prog W = .ok (.int .i64 (m : Int)) W := fun W => by
    rw [run_max_int2]; subst hm; congr 2; split <;> omega
  rw [Int.natCast_add, Int.natCast_one] at hmk
  have HM := Lib.hid hm
  have HO := Lib.hid hown
  have HZ := Lib.hid hsz
  clear hm hown hsz
  go_enter Tryz.func126, Tryz.ntmps126
  go_wp2_with fail
  refine (trim_any hx).mono ?_
  rintro e w' ⟨rfl, hX, -, rfl⟩
  go_wp2_with fail
  refine (trim_any hy).mono ?_
  rintro e w' ⟨rfl, hY, -, rfl⟩
  go_wp2_with fail
  have HX := hX.below hb
  have HY := hY.below hb
  go_loopw [7, 22] (fun cr i wr => ∃ (k carry : Nat) (zs : List Nat), i = .int .i64 k ∧ cr = .int .u64 carry ∧ k ≤ m ∧ carry ≤ 1 ∧ zs.length = m + 1 ∧ OkD zs ∧ Own wr w.heap.size zs ∧ Below w.heap.size w wr ∧
      val (zs.take k) + Bs k * carry = val ((digs (val ds)).take k) + val ((digs (val es)).take k)) (fun _ i _ => m - (intOf i).toNat)
  case atStart => exact ⟨0, 0, _, rfl, rfl, Nat.zero_le _, by omega, by simp, okD_replicate _ (by omega), HO.out, hb, by simp [val]⟩
  case round =>
    obtain ⟨k, carry, zs, rfl, rfl, hk, hcar, hzl, hzd, hzo, hbr, hv⟩ := hrel
    have HV := Lib.hid hv
    have HZL := Lib.hid hzl
    clear hv hzl
    obtain ⟨dx, hdx⟩ : ∃ d, (digs (val ds)).getD k 0 = d := ⟨_, rfl⟩
    obtain ⟨dy, hdy⟩ : ∃ d, (digs (val es)).getD k 0 = d := ⟨_, rfl⟩
    have bx : dx < 4294967296 := by rw [← hdx]; exact okD_getD (okD_digs _) k
    have by_ : dy < 4294967296 := by rw [← hdy]; exact okD_getD (okD_digs _) k
    have HDX := Lib.hid hdx
    have HDY := Lib.hid hdy
    clear hdx hdy
    have hcell := hzo.cell (j := k) (by have := HZL.out; omega)
    have hfr := hzo.frozen k
    have hbk := hbr.size
    rcases Nat.lt_or_ge k m with hlt | hge
    · go_wp2_with fail
      refine (digit_is (hX.below hbr) HDX).mono ?_
      rintro e w' ⟨rfl, rfl⟩
      go_wp2_with fail
      refine (digit_is (hY.below hbr) HDY).mono ?_
      rintro e w' ⟨rfl, rfl⟩
      go_wp2_with fail
      go_roundw
      case rel =>
        have e1 : ((carry : Int) + ((dx : Int) + (dy : Int))) / 4294967296 = ((carry + (dx + dy)) / 4294967296 : Nat) := by omega
        have e2 : ((carry : Int) + ((dx : Int) + (dy : Int))) % 4294967296 = ((carry + (dx + dy)) % 4294967296 : Nat) := by omega
        rw [e1, e2]
        refine ⟨k + 1, _, _, by go_num, rfl, by omega, by omega, by rw [List.length_set]; exact HZL.out, okD_set hzd k (by omega), hzo.set k _, hbr.setCell (Nat.le_refl _) _, ?_⟩
        rw [Bs_succ, val_take_set (by have := HZL.out; omega), val_take_succ', val_take_succ', HDX.out, HDY.out]
        exact add_round HV.out
      case measure => simp [intOf]; omega
    · obtain rfl : m = k := by omega
      have hfin := hzo.set m carry
      have hraw := hfin.raw_all (okD_set hzd m (by omega)) (by rw [List.length_set, HZL.out]; omega) (m + 1) (m + 1) (by rw [List.length_set]; exact HZL.out.symm) (Nat.le_refl _)
      have hbf := hbr.setCell (p := ⟨w.heap.size, m, none⟩) (Nat.le_refl _) (.int .u32 (carry : Int))
      have hval : val (zs.set m carry) = val ds + val es := by
        have e := val_take_set (ds := zs) (k := m) (by have := HZL.out; omega) carry
        rw [val_take_all (by rw [List.length_set, HZL.out]; omega)] at e
        rw [e, HV.out, val_take_all (by rw [HM.out]; omega), val_take_all (by rw [HM.out]; omega), val_digs, val_digs]
      have HVAL := Lib.hid hval
      clear hval
      go_wp2_with fail
      refine (trim_any hraw).mono ?_
      rintro e w' ⟨rfl, hN, -, rfl⟩
      rw [HVAL.out] at hN
      go_wp2_with fail
      go_ret
      exact ⟨_, _, _, rfl, by rw [HVAL.out]; exact hN, hbf⟩
end Go.Proofs.YthmmnmajkeoaaabGreatDoor
namespace Go.Proofs.YthmmnmajkeoaaabGreatDoor
open Go.RowKit



theorem take_succ_eq {ds es : List Nat} {k : Nat} (h1 : k < ds.length) (h2 : k < es.length) (h : ds.take k = es.take k) (hd : ds.getD k 0 = es.getD k 0) : ds.take (k + 1) = es.take (k + 1) := by
  rw [List.take_succ_eq_append_getElem h1, List.take_succ_eq_append_getElem h2, h]
  rw [List.getD_eq_getElem?_getD, List.getD_eq_getElem?_getD, List.getElem?_eq_getElem h1, List.getElem?_eq_getElem h2] at hd
  simp only [Option.getD_some] at hd
  rw [hd]

set_option maxRecDepth 100000 in
set_option maxHeartbeats 800000 in
theorem same_any {A A' : Option Addr} {n n' c c' : Nat} {ds es : List Nat} {w : World} (hx : Raw w (.slice A n c) ds) (hy : Raw w (.slice A' n' c') es) :
    Calls Tryz.prog 90 #[.slice A n c, .slice A' n' c'] w fun e w' => e = .returned (.bool (decide (ds = es))) ∧ ∃ j, w' = w.drewN j := by
  obtain ⟨hn, hc⟩ := hx.cap
  obtain ⟨hn', hc'⟩ := hy.cap
  have hl := hx.len
  have hl' := hy.len
  subst hn
  subst hn'
  by_cases hlen : ds.length = es.length
  · have HL := Lib.hid hlen
    have hlB : ((ds.length : Int) != (es.length : Int)) = false := by simp [hlen]
    clear hlen
    go_enter Tryz.func90, Tryz.ntmps90
    go_wp2
    go_loopw [13] (fun i wr => ∃ k j : Nat, k ≤ ds.length ∧ i = .int .i64 k ∧ ds.take k = es.take k ∧ wr = w.drewN j) (fun i _ => ds.length - (intOf i).toNat)
    case atStart => exact ⟨0, 0, Nat.zero_le _, rfl, by simp, rfl⟩
    case round =>
      obtain ⟨k, j, hk, rfl, ht, rfl⟩ := hrel
      have HT := Lib.hid ht
      clear ht
      rcases Nat.lt_or_ge k ds.length with hlt | hge
      · obtain ⟨ad, hA, hb, hcx⟩ := hx.at_ (j := k) hlt
        obtain ⟨ad', hA', hb', hcy⟩ := hy.at_ (j := k) (by have := HL.out; omega)
        subst hA
        subst hA'
        obtain ⟨dx, hdx⟩ : ∃ d, ds.getD k 0 = d := ⟨_, rfl⟩
        obtain ⟨dy, hdy⟩ : ∃ d, es.getD k 0 = d := ⟨_, rfl⟩
        rw [hdx] at hcx
        rw [hdy] at hcy
        have HDX := Lib.hid hdx
        have HDY := Lib.hid hdy
        clear hdx hdy
        have hlt' : k < es.length := by have := HL.out; omega
        by_cases he : dx = dy
        · subst he
          go_wp2_with fail
          go_quiet (fail)
          go_wp2_with fail
          go_roundw
          case rel => exact ⟨k + 1, _, by omega, by go_num, take_succ_eq hlt hlt' HT.out (by rw [HDX.out, HDY.out]), rfl⟩
          case measure => simp [intOf]; omega
        · have hne : ((dx : Int) != (dy : Int)) = true := by simp; omega
          have HE := Lib.hid he
          clear he
          go_wp2_with fail
          go_quiet (fail)
          go_wp2_with fail
          go_ret
          refine ⟨?_, _, World.drewN_drewN _ _ _⟩
          have : ds ≠ es := fun h => HE.out (by rw [← HDX.out, ← HDY.out, h])
          simp [this]
      · obtain rfl : k = ds.length := by omega
        go_wp2_with fail
        go_ret
        refine ⟨?_, _, rfl⟩
        have h := HT.out
        rw [List.take_of_length_le (Nat.le_refl _), List.take_of_length_le (by have := HL.out; omega)] at h
        simp [h]
  · have hlB : ((ds.length : Int) != (es.length : Int)) = true := by simp; omega
    have HL := Lib.hid hlen
    clear hlen
    go_enter Tryz.func90, Tryz.ntmps90
    go_wp2
    go_ret
    refine ⟨?_, 0, rfl⟩
    have : ds ≠ es := fun h => HL.out (by rw [h])
    simp [this]
end Go.Proofs.YthmmnmajkeoaaabGreatDoor
namespace Go.Proofs.YthmmnmajkeoaaabGreatDoor
open Go.RowKit

set_option maxRecDepth 100000 in
theorem divmod_less {A A' : Option Addr} {n n' c c' x y : Nat} {ds es : List Nat} {w : World} (hx : Raw w (.slice A n c) ds) (hy : Raw w (.slice A' n' c') es) (hvx : Hid (val ds = x)) (hvy : Hid (val es = y)) (hlt : (digs x).length < (digs y).length) :
    Calls Tryz.prog 109 #[.slice A n c, .slice A' n' c'] w fun e w' => ∃ B k d B' k' d', e = .returned (.tuple #[.slice B k d, .slice B' k' d', .bool true]) ∧ Num w' (.slice B k d) (x / y) ∧ Num w' (.slice B' k' d') (x % y) ∧ Below w.heap.size w w' := by
  have hxy : x < y := by
    rcases Nat.lt_or_ge x y with h | h
    · exact h
    · have := digs_length_mono h; omega
  have h1 : x / y = 0 := Nat.div_eq_of_lt hxy
  have h2 : x % y = x := Nat.mod_eq_of_lt hxy
  have H1 := Lib.hid h1
  have H2 := Lib.hid h2
  clear h1 h2 hxy
  have h0 : (((digs y).length : Int) == 0) = false := by rw [beq_eq_false_iff_ne]; omega
  go_enter Tryz.func109, Tryz.ntmps109
  go_wp2_with fail
  refine (trim_is hx hvx).mono ?_
  rintro e w' ⟨rfl, hX, rfl⟩
  go_wp2_with fail
  refine (trim_is hy hvy).mono ?_
  rintro e w' ⟨rfl, hY, rfl⟩
  go_wp2_with fail
  refine (norm_is hX (Lib.hid (val_digs x))).mono ?_
  rintro e w1 ⟨v, rfl, hg, hb⟩
  obtain ⟨A1, c1, rfl⟩ := hg.form
  have hr := hg.raw (Raw.len hX)
  go_wp2_with fail
  go_ret3
  exact ⟨_, _, _, _, _, _, rfl, by rw [H1.out]; exact num_zero _ _, by rw [H2.out]; exact hr, hb⟩

set_option maxRecDepth 100000 in
set_option maxHeartbeats 800000 in
theorem divmod_digit {A A' : Option Addr} {n n' c c' x y : Nat} {ds es : List Nat} {w : World} (hx : Raw w (.slice A n c) ds) (hy : Raw w (.slice A' n' c') es) (hvx : Hid (val ds = x)) (hvy : Hid (val es = y)) (hy0 : 0 < y) (hy1 : y < 4294967296) (hlt : 0 < (digs x).length) :
    Calls Tryz.prog 109 #[.slice A n c, .slice A' n' c'] w fun e w' => ∃ B k d B' k' d', e = .returned (.tuple #[.slice B k d, .slice B' k' d', .bool true]) ∧ Num w' (.slice B k d) (x / y) ∧ Num w' (.slice B' k' d') (x % y) ∧ Below w.heap.size w w' := by
  have hdy := digs_one_digit hy0 hy1
  have HDY := Lib.hid hdy
  clear hdy
  go_enter Tryz.func109, Tryz.ntmps109
  go_wp2_with fail
  refine (trim_is hx hvx).mono ?_
  rintro e w' ⟨rfl, hX, rfl⟩
  go_wp2_with fail
  refine (trim_is hy hvy).mono ?_
  rintro e w' ⟨rfl, hY, rfl⟩
  unfold Num at hY
  rw [HDY.out] at hY ⊢
  obtain ⟨ad, hA, hb0, hcy⟩ := hY.at_ (j := 0) (by simp)
  subst hA
  have e0 : ad.add 0 = ad := by unfold Addr.add; simp
  rw [e0] at hcy
  have hcy' : w.cell? ad = some (.int .u32 (y : Int)) := hcy
  clear hcy
  have hge : ¬ ((digs x).length : Int) < 1 := by omega
  have hdec : decide ((digs x).length < 1) = false := by rw [decide_eq_false_iff_not]; omega
  have hl := Raw.len hX
  have hne : digs x ≠ [] := by intro e; rw [e] at hlt; simp at hlt
  go_wp2_with fail
  refine (norm_is hX (Lib.hid (val_digs x))).mono ?_
  rintro e w1 ⟨v, rfl, hg, hb⟩
  obtain ⟨g, cap, rfl, hgB, hown, hcap⟩ := hg.own hne
  have hcy1 : w1.cell? ad = some (.int .u32 (y : Int)) := (hb.cell hb0).trans hcy'
  have HE := Lib.hid e0
  clear hcy' e0
  go_wp2_with fail
  refine (divd_any hy0 hy1 hown (okD_digs x) hl).mono ?_
  rintro e w2 ⟨qs, rfl, hown2, hqd, hql, hgr, hqv⟩
  have hb2 := hb.grown hgr hb.size (by rintro k hk; injection hk with hk; omega)
  have hraw := hown2.raw_all hqd (by rw [hql]; exact hl) (digs x).length cap hql.symm hcap
  have hm : val (digs x) % y < 18446744073709551616 := by have := Nat.mod_lt (val (digs x)) hy0; omega
  rw [val_digs] at hm hqv ⊢
  have HQV := Lib.hid hqv
  have HQL := Lib.hid hql
  clear hqv hql
  go_wp2_with fail
  refine (trim_is hraw HQV).mono ?_
  rintro e w3 ⟨rfl, hQ, rfl⟩
  go_wp2_with fail
  refine (fromuint_any (x % y) hm w2).mono ?_
  rintro e w3 ⟨B, k, d, rfl, hR, hb3⟩
  have hQ3 := Num.below hQ hb3
  have hb4 := hb2.trans (hb3.mono (Nat.le_trans hb.size hgr.size))
  go_wp2_with fail
  go_ret3
  exact ⟨_, _, _, _, _, _, rfl, hQ3, hR, hb4⟩
end Go.Proofs.YthmmnmajkeoaaabGreatDoor
namespace Go.Proofs.YthmmnmajkeoaaabGreatDoor
open Go.RowKit

theorem raw_lit (w : World) (cs : Array Value) (ds : List Nat) (n b : Nat) (h : cs.toList = ds.map dv) (hd : OkD ds) (hn : n = ds.length) (hl : n ≤ 1000) (hb : b = w.heap.size) : Raw (w.alloc (.cells cs 149)) (.slice (some ⟨b, 0, none⟩) n n) ds := by
  subst hb
  exact (own_lit w cs ds h).raw_all hd (by omega) n n hn (Nat.le_refl _)

end Go.Proofs.YthmmnmajkeoaaabGreatDoor
namespace Go.Proofs.YthmmnmajkeoaaabGreatDoor
open Go.RowKit

theorem mul_bound {p d : Nat} (hp : p < 4294967296) (hd : d < 4294967296) : p * d ≤ 18446744065119617025 := by
  have h1 : p * d ≤ 4294967295 * 4294967295 := Nat.mul_le_mul (by omega) (by omega)
  omega

theorem diff_round {V b plus minus bo p q D E dx dy d pd md P' M' b' : Nat} (hv : V + b * plus + q * E = p * D + b * minus + b * bo)
    (h1 : plus + p * dx = pd + 4294967296 * P') (h2 : minus + q * dy = md + 4294967296 * M') (h3 : d + md + bo = pd + 4294967296 * b') :
    V + b * d + 4294967296 * b * P' + q * (E + b * dy) = p * (D + b * dx) + 4294967296 * b * M' + 4294967296 * b * b' := by
  grind
theorem diff_step (pd md bo : Nat) (h1 : pd < 4294967296) (h2 : md < 4294967296) (h3 : bo ≤ 1) : ∃ d b' : Nat, d < 4294967296 ∧ b' ≤ 1 ∧
    IntKind.u64.wrap (IntKind.u64.wrap ((pd : Int) - (md : Int)) - (bo : Int)) % 4294967296 = (d : Int) ∧ IntKind.u64.wrap (IntKind.u64.wrap ((pd : Int) - (md : Int)) - (bo : Int)) / 9223372036854775808 = (b' : Int) ∧ d + md + bo = pd + 4294967296 * b' := by
  rw [IntKind.wrap_u64, IntKind.wrap_u64]
  by_cases h : md + bo ≤ pd
  · exact ⟨pd - md - bo, 0, by omega, by omega, by omega, by omega, by omega⟩
  · exact ⟨4294967296 + pd - md - bo, 1, by omega, by omega, by omega, by omega, by omega⟩
theorem mod_same {V R b u v : Nat} (h : V + b * u = R + b * v) (hV : V < b) (hR : R < b) : V = R := by
  have h1 : (V + b * u) % b = (R + b * v) % b := by rw [h]
  rwa [Nat.add_mul_mod_self_left, Nat.add_mul_mod_self_left, Nat.mod_eq_of_lt hV, Nat.mod_eq_of_lt hR] at h1

set_option maxRecDepth 100000 in
set_option maxHeartbeats 800000 in
theorem diff_any {A A' : Option Addr} {n n' c c' : Nat} {ds es : List Nat} {w : World} (hx : Raw w (.slice A n c) ds) (hy : Raw w (.slice A' n' c') es) (p q : Nat) (hp : p < 4294967296) (hq : q < 4294967296)
    (hle : q * val es ≤ p * val ds) (hlt : p * val ds - q * val es < Bs (max ds.length es.length)) :
    Calls Tryz.prog 138 #[.int .u64 (p : Int), .slice A n c, .int .u64 (q : Int), .slice A' n' c'] w fun e w' => ∃ B k d, e = .returned (.slice B k d) ∧ Num w' (.slice B k d) (p * val ds - q * val es) ∧ Below w.heap.size w w' := by
  obtain ⟨hn, hc⟩ := hx.cap
  obtain ⟨hn', hc'⟩ := hy.cap
  have hl := hx.len
  have hl' := hy.len
  subst hn
  subst hn'
  obtain ⟨m, hm⟩ : ∃ m, m = max ds.length es.length := ⟨_, rfl⟩
  have hm1 : m ≤ 1000000000 := by omega
  obtain ⟨w1, hmk, hown, hb, hsz⟩ := make_row Tryz.underlying59 m (by omega) w
  have hmax : ∀ W : World, (Builtin.max_ #[3, 3] 3 #[.int .i64 (ds.length : Int), .int .i64 (es.length : Int)]).run Tryz.prog W = .ok (.int .i64 (m : Int)) W := fun W => by
    rw [run_max_int2]; subst hm; congr 2; split <;> omega
  have HM := Lib.hid hm
  have HO := Lib.hid hown
  have HZ := Lib.hid hsz
  have HLE := Lib.hid hle
  have HLT := Lib.hid hlt
  clear hm hown hsz hle hlt
  go_enter Tryz.func138, Tryz.ntmps138
  go_wp2_with fail
  go_loopw [11, 12, 13, 24] (fun pl mi bo i wr => ∃ (k plus minus borrow : Nat) (zs : List Nat), i = .int .i64 k ∧ pl = .int .u64 plus ∧ mi = .int .u64 minus ∧ bo = .int .u64 borrow ∧ k ≤ m ∧ plus < 4294967296 ∧ minus < 4294967296 ∧ borrow ≤ 1 ∧ zs.length = m ∧ OkD zs ∧ Own wr w.heap.size zs ∧ Below w.heap.size w wr ∧
      val (zs.take k) + Bs k * plus + q * val (es.take k) = p * val (ds.take k) + Bs k * minus + Bs k * borrow) (fun _ _ _ i _ => m - (intOf i).toNat)
  case atStart => exact ⟨0, 0, 0, 0, _, rfl, rfl, rfl, rfl, Nat.zero_le _, by omega, by omega, by omega, by simp, okD_replicate _ (by omega), HO.out, hb, by simp [val]⟩
  case round =>
    obtain ⟨k, plus, minus, borrow, zs, rfl, rfl, rfl, rfl, hk, hpl, hmi, hbo, hzl, hzd, hzo, hbr, hv⟩ := hrel
    have HV := Lib.hid hv
    have HZL := Lib.hid hzl
    clear hv hzl
    obtain ⟨dx, hdx⟩ : ∃ d, ds.getD k 0 = d := ⟨_, rfl⟩
    obtain ⟨dy, hdy⟩ : ∃ d, es.getD k 0 = d := ⟨_, rfl⟩
    have bx : dx < 4294967296 := by rw [← hdx]; exact okD_getD hx.okD k
    have by_ : dy < 4294967296 := by rw [← hdy]; exact okD_getD hy.okD k
    have HDX := Lib.hid hdx
    have HDY := Lib.hid hdy
    clear hdx hdy
    rcases Nat.lt_or_ge k m with hlt | hge
    · have hcell := hzo.cell (j := k) (by have := HZL.out; omega)
      have hfr := hzo.frozen k
      have m1 := mul_bound hp bx
      have m2 := mul_bound hq by_
      go_wp2_with fail
      refine (digit_is (hx.below hbr) HDX).mono ?_
      rintro e w' ⟨rfl, rfl⟩
      go_wp2_with fail
      refine (digit_is (hy.below hbr) HDY).mono ?_
      rintro e w' ⟨rfl, rfl⟩
      go_wp2_with fail
      go_roundw
      case rel =>
        have e1 : ((plus : Int) + (p : Int) * (dx : Int)) = ((plus + p * dx : Nat) : Int) := by simp
        have e2 : ((minus : Int) + (q : Int) * (dy : Int)) = ((minus + q * dy : Nat) : Int) := by simp
        rw [and_mask (by rw [e1]; omega) (by rw [e1]; omega), and_mask (by rw [e2]; omega) (by rw [e2]; omega), e1, e2]
        obtain ⟨P, hP⟩ : ∃ P, P = plus + p * dx := ⟨_, rfl⟩
        obtain ⟨M, hM⟩ : ∃ M, M = minus + q * dy := ⟨_, rfl⟩
        rw [← hP, ← hM]
        obtain ⟨d, b', hd, hb', s1, s2, s3⟩ := diff_step (P % 4294967296) (M % 4294967296) borrow (by omega) (by omega) hbo
        rw [show ((P : Int) % 4294967296) = ((P % 4294967296 : Nat) : Int) by omega, show ((M : Int) % 4294967296) = ((M % 4294967296 : Nat) : Int) by omega, show ((P : Int) / 4294967296) = ((P / 4294967296 : Nat) : Int) by omega, show ((M : Int) / 4294967296) = ((M / 4294967296 : Nat) : Int) by omega, s1, s2]
        refine ⟨k + 1, _, _, _, _, by go_num, rfl, rfl, rfl, by omega, by omega, by omega, hb', by rw [List.length_set]; exact HZL.out, okD_set hzd k hd, hzo.set k _, hbr.setCell (Nat.le_refl _) _, ?_⟩
        rw [Bs_succ, val_take_set (by have := HZL.out; omega), val_take_succ', val_take_succ', HDX.out, HDY.out]
        exact diff_round HV.out (by omega) (by omega) s3
      case measure => simp [intOf]; omega
    · obtain rfl : m = k := by omega
      have hval : val zs = p * val ds - q * val es := by
        have h := HV.out
        rw [val_take_all (by rw [HZL.out]; omega), val_take_all (by rw [HM.out]; omega), val_take_all (by rw [HM.out]; omega)] at h
        have hlz := val_lt hzd
        rw [HZL.out] at hlz
        have h1 := HLE.out
        have h2 := HLT.out
        rw [← HM.out] at h2
        exact mod_same (b := Bs m) (u := plus) (v := minus + borrow) (by rw [Nat.mul_add]; omega) hlz h2
      have hraw := hzo.raw_all hzd (by rw [HZL.out]; omega) m m HZL.out.symm (Nat.le_refl _)
      have HVAL := Lib.hid hval
      clear hval
      go_wp2_with fail
      refine (trim_any hraw).mono ?_
      rintro e w' ⟨rfl, hN, -, rfl⟩
      rw [HVAL.out] at hN
      go_wp2_with fail
      go_ret
      exact ⟨_, _, _, rfl, by rw [HVAL.out]; exact hN, hbr⟩
end Go.Proofs.YthmmnmajkeoaaabGreatDoor
namespace Go.Proofs.YthmmnmajkeoaaabGreatDoor
open Go.RowKit

/-- How two numbers compare. -/
def cmpI (x y : Nat) : Int := if x < y then -1 else if y < x then 1 else 0
theorem cmpI_lt {x y : Nat} (h : x < y) : cmpI x y = -1 := by simp [cmpI, h]
theorem cmpI_gt {x y : Nat} (h : y < x) : cmpI x y = 1 := by simp [cmpI, h, Nat.lt_asymm h]
theorem cmpI_eq {x y : Nat} (h : x = y) : cmpI x y = 0 := by simp [cmpI, h]

theorem order_t (w : World) : Calls Tryz.prog 125 #[.bool true] w fun e w' => e = .returned (.int .i64 (-1)) ∧ w = w' := order_any true w
theorem order_f (w : World) : Calls Tryz.prog 125 #[.bool false] w fun e w' => e = .returned (.int .i64 1) ∧ w = w' := order_any false w

theorem val_split {ds : List Nat} {k : Nat} (h : k < ds.length) : val ds = val (ds.take k) + Bs k * ds.getD k 0 + Bs (k + 1) * val (ds.drop (k + 1)) := by
  rw [← val_take_succ ds k h]; exact val_take_drop ds (k + 1) (by omega)
theorem split_lt {b u v x y h : Nat} (hu : u < b) (hxy : x < y) : u + b * x + h < v + b * y + h := by
  have h1 : b * (x + 1) ≤ b * y := Nat.mul_le_mul_left b hxy
  rw [Nat.mul_add] at h1
  omega
theorem cmp_digit {ds es : List Nat} (hd : OkD ds) {k : Nat} (h1 : k < ds.length) (h2 : k < es.length) (h : ds.drop (k + 1) = es.drop (k + 1)) (hlt : ds.getD k 0 < es.getD k 0) : val ds < val es := by
  rw [val_split h1, val_split h2, h]
  exact split_lt (val_take_lt hd k) hlt
theorem drop_eq_pred {ds es : List Nat} {k : Nat} (h1 : k < ds.length) (h2 : k < es.length) (h : ds.drop (k + 1) = es.drop (k + 1)) (hd : ds.getD k 0 = es.getD k 0) : ds.drop k = es.drop k := by
  rw [List.drop_eq_getElem_cons h1, List.drop_eq_getElem_cons h2, h]
  rw [List.getD_eq_getElem?_getD, List.getD_eq_getElem?_getD, List.getElem?_eq_getElem h1, List.getElem?_eq_getElem h2] at hd
  simp only [Option.getD_some] at hd
  rw [hd]
theorem lt_of_len {x y : Nat} (h : (digs x).length < (digs y).length) : x < y := by
  rcases Nat.lt_or_ge x y with h1 | h1
  · exact h1
  · have := digs_length_mono h1; omega

set_option maxRecDepth 100000 in
set_option maxHeartbeats 800000 in
theorem cmp_is {A A' : Option Addr} {n n' c c' x y : Nat} {ds es : List Nat} {w : World} (hx : Raw w (.slice A n c) ds) (hy : Raw w (.slice A' n' c') es) (hvx : Hid (val ds = x)) (hvy : Hid (val es = y)) :
    Calls Tryz.prog 103 #[.slice A n c, .slice A' n' c'] w fun e w' => e = .returned (.int .i64 (cmpI x y)) ∧ ∃ j, w' = w.drewN j := by
  go_enter Tryz.func103, Tryz.ntmps103
  go_wp2_with fail
  refine (trim_is hx hvx).mono ?_
  rintro e w' ⟨rfl, hX, rfl⟩
  go_wp2_with fail
  refine (trim_is hy hvy).mono ?_
  rintro e w' ⟨rfl, hY, rfl⟩
  clear hx hy
  have hX' : Raw w (.slice A (digs x).length c) (digs x) := hX
  have hY' : Raw w (.slice A' (digs y).length c') (digs y) := hY
  have hl := hX'.len
  have hl' := hY'.len
  by_cases hlen : (digs x).length = (digs y).length
  · have hlB : (((digs x).length : Int) != ((digs y).length : Int)) = false := by simp [hlen]
    have HL := Lib.hid hlen
    clear hlen
    go_wp2_with fail
    go_loopw [5] (fun i wr => ∃ k j : Nat, k ≤ (digs x).length ∧ i = .int .i64 ((k : Int) - 1) ∧ (digs x).drop k = (digs y).drop k ∧ wr = w.drewN j) (fun i _ => (intOf i + 1).toNat)
    case atStart => exact ⟨(digs x).length, 0, Nat.le_refl _, rfl, by rw [List.drop_eq_nil_of_le (Nat.le_refl _), List.drop_eq_nil_of_le (by rw [HL.out]; exact Nat.le_refl _)], rfl⟩
    case round =>
      obtain ⟨k, j, hk, rfl, ht, rfl⟩ := hrel
      rcases Nat.eq_zero_or_pos k with rfl | hk0
      · have hxy : x = y := digs_inj (by simpa using ht)
        have HE := Lib.hid hxy
        clear hxy ht
        go_wp2_with fail
        go_ret
        exact ⟨by rw [cmpI_eq HE.out]; rfl, _, rfl⟩
      · obtain ⟨m, rfl⟩ : ∃ m, k = m + 1 := ⟨k - 1, by omega⟩
        have HT := Lib.hid ht
        clear ht
        have hlt : m < (digs x).length := by omega
        have hlt' : m < (digs y).length := by have := HL.out; omega
        obtain ⟨ad, hA, hb, hcx⟩ := hX'.at_ (j := m) hlt
        obtain ⟨ad', hA', hb', hcy⟩ := hY'.at_ (j := m) hlt'
        subst hA
        subst hA'
        obtain ⟨dx, hdx⟩ : ∃ d, (digs x).getD m 0 = d := ⟨_, rfl⟩
        obtain ⟨dy, hdy⟩ : ∃ d, (digs y).getD m 0 = d := ⟨_, rfl⟩
        rw [hdx] at hcx
        rw [hdy] at hcy
        have HDX := Lib.hid hdx
        have HDY := Lib.hid hdy
        clear hdx hdy
        have ei : ((m + 1 : Nat) : Int) - 1 = (m : Int) := by omega
        rw [ei]
        clear ei
        by_cases he : dx = dy
        · subst he
          go_wp2_with fail
          go_quiet (fail)
          go_wp2_with fail
          go_roundw
          case rel => exact ⟨m, _, by omega, rfl, drop_eq_pred hlt hlt' HT.out (by rw [HDX.out, HDY.out]), rfl⟩
          case measure => simp [intOf]
        · have hne : ((dx : Int) != (dy : Int)) = true := by rw [bne_iff_ne]; omega
          rcases Nat.lt_or_ge dx dy with h | h
          · have hres := cmpI_lt (cmp_digit (okD_digs x) hlt hlt' HT.out (by rw [HDX.out, HDY.out]; exact h))
            rw [val_digs, val_digs] at hres
            have HR := Lib.hid hres
            clear hres he
            go_wp2_with fail
            go_quiet (fail)
            go_wp2_with fail
            go_quiet ((go_at_call 125; exact (order_t _).mono fun _ _ hh => ⟨hh.1, _, hh.2.symm⟩))
            go_wp2_with fail
            go_ret
            refine ⟨by rw [HR.out]; rfl, ?_⟩
            simp only [World.drewN_drewN]
            exact ⟨_, rfl⟩
          · have h' : dy < dx := by omega
            have hdec : decide (dx < dy) = false := by simp; omega
            have hres := cmpI_gt (cmp_digit (okD_digs y) hlt' hlt HT.out.symm (by rw [HDX.out, HDY.out]; exact h'))
            rw [val_digs, val_digs] at hres
            have HR := Lib.hid hres
            clear hres he
            go_wp2_with fail
            go_quiet (fail)
            go_wp2_with fail
            go_quiet ((go_at_call 125; exact (order_f _).mono fun _ _ hh => ⟨hh.1, _, hh.2.symm⟩))
            go_wp2_with fail
            go_ret
            refine ⟨by rw [HR.out]; rfl, ?_⟩
            simp only [World.drewN_drewN]
            exact ⟨_, rfl⟩
  · have hlB : (((digs x).length : Int) != ((digs y).length : Int)) = true := by simp; omega
    rcases Nat.lt_or_ge (digs x).length (digs y).length with h | h
    · have hres := cmpI_lt (lt_of_len h)
      have HR := Lib.hid hres
      clear hres hlen
      go_wp2_with fail
      refine (order_t _).mono ?_
      rintro e w' ⟨rfl, rfl⟩
      go_wp2_with fail
      go_ret
      exact ⟨by rw [HR.out]; rfl, 0, rfl⟩
    · have h' : (digs y).length < (digs x).length := by omega
      have hdec : decide ((digs x).length < (digs y).length) = false := by simp; omega
      have hres := cmpI_gt (lt_of_len h')
      have HR := Lib.hid hres
      clear hres hlen
      go_wp2_with fail
      refine (order_f _).mono ?_
      rintro e w' ⟨rfl, rfl⟩
      go_wp2_with fail
      go_ret
      exact ⟨by rw [HR.out]; rfl, 0, rfl⟩
set_option maxRecDepth 100000 in
theorem sub_lt {A A' : Option Addr} {n n' c c' x y : Nat} {ds es : List Nat} {w : World} (hx : Raw w (.slice A n c) ds) (hy : Raw w (.slice A' n' c') es) (hvx : Hid (val ds = x)) (hvy : Hid (val es = y)) (h : x < y) :
    Calls Tryz.prog 127 #[.slice A n c, .slice A' n' c'] w fun e w' => e = .returned (.tuple #[.slice none 0 0, .bool false]) ∧ Below w.heap.size w w' := by
  have hc := cmp_is hx hy hvx hvy
  rw [cmpI_lt h] at hc
  have HC := Lib.hid hc
  clear hc h
  go_enter Tryz.func127, Tryz.ntmps127
  go_wp2_with fail
  refine HC.out.mono ?_
  rintro e w' ⟨rfl, j, rfl⟩
  go_wp2_with fail
  go_ret2
  exact ⟨rfl, below_drewN (Below.refl _ _) _⟩

set_option maxRecDepth 100000 in
theorem sub_ge {A A' : Option Addr} {n n' c c' x y : Nat} {ds es : List Nat} {w : World} (hx : Raw w (.slice A n c) ds) (hy : Raw w (.slice A' n' c') es) (hvx : Hid (val ds = x)) (hvy : Hid (val es = y)) (h : y ≤ x) :
    Calls Tryz.prog 127 #[.slice A n c, .slice A' n' c'] w fun e w' => ∃ B k d, e = .returned (.tuple #[.slice B k d, .bool true]) ∧ Num w' (.slice B k d) (x - y) ∧ Below w.heap.size w w' := by
  have hc := cmp_is hx hy hvx hvy
  have h0 : ∃ r : Int, cmpI x y = r ∧ 0 ≤ r := by
    rcases Nat.lt_or_ge y x with h1 | h1
    · exact ⟨1, cmpI_gt h1, by omega⟩
    · exact ⟨0, cmpI_eq (by omega), by omega⟩
  obtain ⟨r, hr, hr0⟩ := h0
  rw [hr] at hc
  have HC := Lib.hid hc
  have HH := Lib.hid h
  clear hc h hr
  go_enter Tryz.func127, Tryz.ntmps127
  go_wp2_with fail
  refine HC.out.mono ?_
  rintro e w' ⟨rfl, j, rfl⟩
  go_wp2_with fail
  refine (trim_is (hx.drewN j) hvx).mono ?_
  rintro e w' ⟨rfl, hX, rfl⟩
  go_wp2_with fail
  refine (trim_is (hy.drewN j) hvy).mono ?_
  rintro e w' ⟨rfl, hY, rfl⟩
  go_wp2_with fail
  refine (diff_any hX hY 1 1 (by omega) (by omega) (by rw [val_digs, val_digs]; have := HH.out; omega) ?_).mono ?_
  · rw [val_digs, val_digs]
    have h1 := lt_of_digs_length (Nat.le_refl (digs x).length)
    have h2 := Bs_mono (show (digs x).length ≤ max (digs x).length (digs y).length by omega)
    omega
  rintro e w' ⟨B, k, d, rfl, hN, hb⟩
  rw [val_digs, val_digs, Nat.one_mul, Nat.one_mul] at hN
  go_wp2_with fail
  go_ret2
  exact ⟨B, k, d, rfl, hN, (below_drewN (Below.refl _ _) j).trans hb⟩
end Go.Proofs.YthmmnmajkeoaaabGreatDoor
namespace Go.Proofs.YthmmnmajkeoaaabGreatDoor
open Go.RowKit
attribute [local go_sem ↓] Go.wp_at_zero Go.wp_at_succ

theorem mul_round {V V' b bm carry X d y D : Nat} (h1 : V = X * y) (h2 : V' + bm * carry = V + b * (d * y)) (hD : D = V' + bm * carry) : D = (X + b * d) * y := by
  subst hD; rw [h2, h1]; grind

set_option maxRecDepth 100000 in
set_option maxHeartbeats 1600000 in
theorem mul_is {A A' : Option Addr} {n n' c c' x y : Nat} {ds es : List Nat} {w : World} (hx : Raw w (.slice A n c) ds) (hy : Raw w (.slice A' n' c') es) (hvx : Hid (val ds = x)) (hvy : Hid (val es = y)) (hl : (digs x).length + (digs y).length ≤ 1000000000) :
    Calls Tryz.prog 106 #[.slice A n c, .slice A' n' c'] w fun e w' => ∃ B k d, e = .returned (.slice B k d) ∧ Num w' (.slice B k d) (x * y) ∧ Below w.heap.size w w' := by
  obtain ⟨w1, hmk, hown, hb, hsz⟩ := make_row Tryz.underlying59 ((digs x).length + (digs y).length) hl w
  rw [Int.natCast_add] at hmk
  have HO := Lib.hid hown
  have HZ := Lib.hid hsz
  clear hown hsz
  go_enter Tryz.func106, Tryz.ntmps106
  go_wp2_with fail
  refine (trim_is hx hvx).mono ?_
  rintro e w' ⟨rfl, hX, rfl⟩
  go_wp2_with fail
  refine (trim_is hy hvy).mono ?_
  rintro e w' ⟨rfl, hY, rfl⟩
  clear hx hy
  have hX' : Raw w (.slice A (digs x).length c) (digs x) := hX
  have hY' : Raw w (.slice A' (digs y).length c') (digs y) := hY
  have hlx := hX'.len
  have hly := hY'.len
  go_wp2_with fail
  go_loopw [19] (fun i wr => ∃ (k : Nat) (zs : List Nat), i = .int .i64 k ∧ k ≤ (digs x).length ∧ zs.length = (digs x).length + (digs y).length ∧ OkD zs ∧ Own wr w.heap.size zs ∧ Below w.heap.size w wr ∧
      val (zs.take (k + (digs y).length)) = val ((digs x).take k) * y) (fun i _ => (digs x).length - (intOf i).toNat)
  case atStart => exact ⟨0, _, rfl, Nat.zero_le _, by simp, okD_replicate _ (by omega), HO.out, hb, by rw [List.take_replicate, val_replicate]; simp [val]⟩
  case round =>
    obtain ⟨k, zs, rfl, hk, hzl, hzd, hzo, hbr, hv⟩ := hrel
    have HV := Lib.hid hv
    have HZL := Lib.hid hzl
    clear hv hzl
    rcases Nat.lt_or_ge k (digs x).length with hlt | hge
    · obtain ⟨ad, hA, hb', hcx⟩ := hX'.at_ (j := k) hlt
      subst hA
      obtain ⟨dx, hdx⟩ : ∃ d, (digs x).getD k 0 = d := ⟨_, rfl⟩
      have bx : dx < 4294967296 := by rw [← hdx]; exact okD_getD (okD_digs x) k
      rw [hdx] at hcx
      have HDX := Lib.hid hdx
      clear hdx
      have hcx' : wr.cell? (ad.add k) = some (.int .u32 (dx : Int)) := (hbr.cell (by rw [addr_add_block]; exact hb')).trans hcx
      have i1 : (0 : Int) ≤ (k : Int) := by omega
      have i2 : (k : Int) < ((digs x).length : Int) := by omega
      have i3 : (k : Int) + ((digs y).length : Int) < ((digs x).length : Int) + ((digs y).length : Int) := by omega
      have i4 : (k : Int) ≤ (k : Int) + ((digs y).length : Int) := by omega
      have i5 : (k : Int) + ((digs y).length : Int) ≤ ((digs x).length : Int) + ((digs y).length : Int) := by omega
      have i6 : (0 : Int) ≤ (k : Int) + ((digs y).length : Int) := by omega
      have i7 : ((k : Int) + ((digs y).length : Int)).toNat = k + (digs y).length := by omega
      have i8 : IntKind.i64.wrap ((k : Int) + ((digs y).length : Int)) = (k : Int) + ((digs y).length : Int) := IntWalk.i64_in _ (by omega)
      have i9 : ¬ (digs x).length + (digs y).length = k := by omega
      go_wp2_with fail
      have hYr := hY'.below hbr
      have hneY : 0 < (digs y).length → ∀ ad, A' = some ad → ad.block ≠ w.heap.size := fun h0 ad hA => Nat.ne_of_lt (hY'.block h0 ad hA)
      have HNE := Lib.hid hneY
      have hna : ∀ j, ad.add k ≠ ⟨w.heap.size, j, none⟩ := fun j e => by
        have h := congrArg Addr.block e
        rw [addr_add_block] at h
        simp at h
        omega
      have HNA := Lib.hid hna
      clear hna
      clear hneY
      go_region_held3 (fun W => W.cell? (ad.add k) = some (.int .u32 (dx : Int))) (first | go_keep | exact HK.out | exact (World.cell?_setCell_other _ _ _ _ (HNA.out _)).trans HK.out | exact (World.cell?_setCell_other _ _ _ _ (fun e => HNA.out _ e.symm)).trans HK.out)
        ((go_at_call 128; refine (addmul_any (g := w.heap.size) (o := k) (zs := zs) (es := digs y) dx bx (by exact hzo) hzd (by have := HZL.out; omega) (by exact hYr) HNE.out (by have := HZL.out; omega) (by omega)).mono ?_; rintro e w' ⟨carry, zs', rfl, hcar, hzo', hzd', hzl', hgr, htk, hdr, hv'⟩; have HV' := Lib.hid hv'; have HTK := Lib.hid htk; have HDR := Lib.hid hdr; have HZL' := Lib.hid hzl'; clear hv' htk hdr hzl'; have hcell := hzo'.cell (j := k + (digs y).length) (by rw [HZL'.out]; have := HZL.out; omega); have hfr := hzo'.frozen (k + (digs y).length); have hk' := hgr.cell hcx' (by intro h; injection h with h; rw [addr_add_block] at h; omega); have HK := Lib.hid hk'; clear hk'))
      go_wp2_with fail
      go_roundw
      case rel =>
        have hmono : Below w.heap.size w w' := (hbr.drew).grown hgr (by exact hbr.size) (by rintro g h; injection h with h; omega)
        refine ⟨k + 1, _, by go_num, by omega, by rw [List.length_set, HZL'.out]; exact HZL.out, okD_set hzd' _ hcar, hzo'.set _ _, hmono.setCell (Nat.le_refl _) _, ?_⟩
        have hv' := HV'.out
        rw [val_digs] at hv'
        rw [show k + 1 + (digs y).length = k + (digs y).length + 1 by omega, val_take_set (by rw [HZL'.out]; have := HZL.out; omega), val_take_succ', HDX.out]
        exact mul_round HV.out hv' rfl
      case measure => simp [intOf]; omega
    · obtain rfl : k = (digs x).length := by omega
      have hval : val zs = x * y := by
        have h := HV.out
        rw [val_take_all (by rw [HZL.out]; omega), val_take_all (Nat.le_refl _), val_digs] at h
        exact h
      have hraw := hzo.raw_all hzd (by rw [HZL.out]; omega) ((digs x).length + (digs y).length) ((digs x).length + (digs y).length) HZL.out.symm (Nat.le_refl _)
      have HVAL := Lib.hid hval
      clear hval
      go_wp2_with fail
      refine (trim_is hraw HVAL).mono ?_
      rintro e w' ⟨rfl, hN, rfl⟩
      go_wp2_with fail
      go_ret
      exact ⟨_, _, _, rfl, hN, hbr⟩
end Go.Proofs.YthmmnmajkeoaaabGreatDoor
namespace Go.Proofs.YthmmnmajkeoaaabGreatDoor
open Go.RowKit

/-- v reads as x, with at most L digits, zeros at the end among them. -/
def RV (w : World) (v : Value) (x L : Nat) : Prop := ∃ ds, Raw w v ds ∧ val ds = x ∧ ds.length ≤ L
/-- v reads as x in normal form, with at most L digits. -/
def NV (w : World) (v : Value) (x L : Nat) : Prop := Num w v x ∧ x < Bs L
section
variable {w w' : World} {v : Value} {x L b : Nat}
theorem NV.rv (h : NV w v x L) : RV w v x L := ⟨digs x, h.1, val_digs x, digs_length_le h.2⟩
theorem NV.below (h : NV w v x L) (hb : Below w.heap.size w w') : NV w' v x L := ⟨h.1.below hb, h.2⟩
theorem RV.below (h : RV w v x L) (hb : Below w.heap.size w w') : RV w' v x L := by
  obtain ⟨ds, h1, h2, h3⟩ := h; exact ⟨ds, h1.below hb, h2, h3⟩
theorem RV.lt (h : RV w v x L) : x < Bs L := by
  obtain ⟨ds, h1, rfl, h3⟩ := h; exact Nat.lt_of_lt_of_le (val_lt h1.okD) (Bs_mono h3)
theorem RV.more {L' : Nat} (h : RV w v x L) (hL : L ≤ L') : RV w v x L' := by
  obtain ⟨ds, h1, h2, h3⟩ := h; exact ⟨ds, h1, h2, by omega⟩
end
theorem add_lt_Bs {x y L L' : Nat} (hx : x < Bs L) (hy : y < Bs L') : x + y < Bs (max L L' + 1) := by
  have h1 := Bs_mono (show L ≤ max L L' by omega)
  have h2 := Bs_mono (show L' ≤ max L L' by omega)
  rw [Bs_succ]; omega
theorem mul_lt_Bs {x y L L' : Nat} (hx : x < Bs L) (hy : y < Bs L') : x * y < Bs (L + L') := by
  rw [Bs_add]
  exact Nat.mul_lt_mul'' hx hy

section
variable {A A' : Option Addr} {n n' c c' x y L L' : Nat} {w : World}
theorem add_v (hx : RV w (.slice A n c) x L) (hy : RV w (.slice A' n' c') y L') (hL : L ≤ 1000000) (hL' : L' ≤ 1000000) :
    Calls Tryz.prog 126 #[.slice A n c, .slice A' n' c'] w fun e w' => ∃ B k d, e = .returned (.slice B k d) ∧ NV w' (.slice B k d) (x + y) (max L L' + 1) ∧ Below w.heap.size w w' := by
  have hb := add_lt_Bs hx.lt hy.lt
  obtain ⟨ds, h1, rfl, h3⟩ := hx
  obtain ⟨es, k1, rfl, k3⟩ := hy
  refine (add_any h1 k1 (by omega) (by omega)).mono ?_
  rintro e w' ⟨B, k, d, rfl, hN, hbl⟩
  exact ⟨B, k, d, rfl, ⟨hN, hb⟩, hbl⟩
theorem mul_v (hx : RV w (.slice A n c) x L) (hy : RV w (.slice A' n' c') y L') (hL : L ≤ 1000000) (hL' : L' ≤ 1000000) :
    Calls Tryz.prog 106 #[.slice A n c, .slice A' n' c'] w fun e w' => ∃ B k d, e = .returned (.slice B k d) ∧ NV w' (.slice B k d) (x * y) (L + L') ∧ Below w.heap.size w w' := by
  have hb := mul_lt_Bs hx.lt hy.lt
  have l1 := digs_length_le hx.lt
  have l2 := digs_length_le hy.lt
  obtain ⟨ds, h1, h2, h3⟩ := hx
  obtain ⟨es, k1, k2, k3⟩ := hy
  refine (mul_is h1 k1 (Lib.hid h2) (Lib.hid k2) (by omega)).mono ?_
  rintro e w' ⟨B, k, d, rfl, hN, hbl⟩
  exact ⟨B, k, d, rfl, ⟨hN, hb⟩, hbl⟩
theorem sub_v (hx : RV w (.slice A n c) x L) (hy : RV w (.slice A' n' c') y L') (hle : y ≤ x) :
    Calls Tryz.prog 127 #[.slice A n c, .slice A' n' c'] w fun e w' => ∃ B k d, e = .returned (.tuple #[.slice B k d, .bool true]) ∧ NV w' (.slice B k d) (x - y) L ∧ Below w.heap.size w w' := by
  have hb : x - y < Bs L := Nat.lt_of_le_of_lt (Nat.sub_le _ _) hx.lt
  obtain ⟨ds, h1, h2, h3⟩ := hx
  obtain ⟨es, k1, k2, k3⟩ := hy
  refine (sub_ge h1 k1 (Lib.hid h2) (Lib.hid k2) hle).mono ?_
  rintro e w' ⟨B, k, d, rfl, hN, hbl⟩
  exact ⟨B, k, d, rfl, ⟨hN, hb⟩, hbl⟩
theorem norm_v (hx : RV w (.slice A n c) x L) (hL : L ≤ 1000000) :
    Calls Tryz.prog 108 #[.slice A n c] w fun e w' => ∃ B k d, e = .returned (.slice B k d) ∧ NV w' (.slice B k d) x L ∧ Below w.heap.size w w' := by
  have hb := hx.lt
  obtain ⟨ds, h1, h2, h3⟩ := hx
  refine (norm_is h1 (Lib.hid h2)).mono ?_
  rintro e w' ⟨v, rfl, hg, hbl⟩
  obtain ⟨B, d, rfl⟩ := hg.form
  have hl := digs_length_le hb
  exact ⟨B, _, d, rfl, ⟨hg.raw (by omega), hb⟩, hbl⟩
theorem cmp_v (hx : RV w (.slice A n c) x L) (hy : RV w (.slice A' n' c') y L') :
    Calls Tryz.prog 103 #[.slice A n c, .slice A' n' c'] w fun e w' => e = .returned (.int .i64 (cmpI x y)) ∧ Below w.heap.size w w' := by
  obtain ⟨ds, h1, h2, h3⟩ := hx
  obtain ⟨es, k1, k2, k3⟩ := hy
  refine (cmp_is h1 k1 (Lib.hid h2) (Lib.hid k2)).mono ?_
  rintro e w' ⟨rfl, j, rfl⟩
  exact ⟨rfl, below_drewN (Below.refl _ _) j⟩
end
end Go.Proofs.YthmmnmajkeoaaabGreatDoor
