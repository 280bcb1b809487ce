/-
  New and Nat: the tape, and a number from it.
-/
import Derived.Test.YtkhfadfjkmhpgaaDoorTape
namespace Go.Proofs.YtkhfadfjkmhpgaaDoor
open Go.RowKit

theorem Grow.other {w w' : World} {B b : Nat} {v : Value} {ds : List Nat} (h : Grow w B v ds) (hg : w.grownBy w' (some b)) (hb : b < B) : Grow w' B v ds := by
  obtain ⟨hd, h1, h2⟩ := h
  refine ⟨hd, h1, ?_⟩
  rcases h2 with h2 | ⟨g, cap, cur, hv, hgB, hh, h3⟩
  · exact .inl h2
  · refine .inr ⟨g, cap, cur, hv, hgB, (hg.block g ?_ (by intro e; injection e with e; omega)).trans hh, h3⟩
    rcases Nat.lt_or_ge g w.heap.size with hlt | hge
    · exact hlt
    · rw [Array.getElem?_eq_none hge] at hh; cases hh
theorem only_trans {a b c : World} {g : Option Nat} (h : a.grownBy b g) (k : b.grownBy c g) : a.grownBy c g :=
  ⟨k.os.trans h.os, k.tape.trans h.tape, k.output.trans h.output, Nat.le_trans h.size k.size, fun i hi hne => (k.block i (Nat.lt_of_lt_of_le hi h.size) hne).trans (h.block i hi hne)⟩
theorem only_below {a b c : World} {g : Option Nat} {B : Nat} (h : a.grownBy b g) (k : Below B b c) (hB : a.heap.size ≤ B) : a.grownBy c g :=
  ⟨k.os.trans h.os, k.tape.trans h.tape, k.output.trans h.output, Nat.le_trans h.size k.size, fun i hi hne => (k.block i (Nat.lt_of_lt_of_le hi hB)).trans (h.block i hi hne)⟩
theorem only_alloc' {a w : World} {row : Option Nat} (h : a.grownBy w row) (o : Obj) : a.grownBy (w.alloc o) row := only_below h (below_alloc w o) h.size

/-- The slice of ints that a law is called with. -/
def Ints (w : World) (v : Value) : Prop := ∃ (A : Option Addr) (n c : Nat), v = .slice A n c ∧ n ≤ c ∧ n ≤ 9223372036854775807 ∧ ∀ j, j < n → ∃ ad z, A = some ad ∧ ad.block < w.heap.size ∧ w.cell? (ad.add j) = some (.int .i64 z)

set_option maxRecDepth 100000 in
theorem new_any {v : Value} {w : World} (h : Ints w v) :
    Calls Tryd.prog 4 #[v] w fun e w' => e = .returned (.pointer (some ⟨w.heap.size, 0, none⟩)) ∧ Tape w' w.heap.size ∧ Below w.heap.size w w' ∧ w'.heap.size = w.heap.size + 1 := by
  obtain ⟨A, n, c, rfl, hn, hc, hcell⟩ := h
  have HC := Lib.hid hcell
  clear hcell
  by_cases h4 : n ≤ 400
  · go_enter Tryd.func4, Tryd.ntmps4
    go_wp2_with fail
    go_ret
    refine ⟨rfl, ⟨A, n, c, 0, heap_alloc_new w _, h4, hn, by omega, fun j hj => ?_⟩, below_alloc w _, by simp⟩
    obtain ⟨ad, z, e1, e2, e3⟩ := HC.out j hj
    exact ⟨ad, z, e1, e2, (World.cell?_alloc_lt w _ _ (by rw [addr_add_block]; exact e2)).trans e3⟩
  · go_enter Tryd.func4, Tryd.ntmps4
    go_wp2_with fail
    go_ret
    refine ⟨rfl, ⟨A, 400, c, 0, heap_alloc_new w _, by omega, by omega, by omega, fun j hj => ?_⟩, below_alloc w _, by simp⟩
    obtain ⟨ad, z, e1, e2, e3⟩ := HC.out j (by omega)
    exact ⟨ad, z, e1, e2, (World.cell?_alloc_lt w _ _ (by rw [addr_add_block]; exact e2)).trans e3⟩

theorem shl16 (a : Nat) (ha : a < 65536) : ((a : Int) * 65536) % 4294967296 = (a : Int) * 65536 := by omega
theorem or16 (a b : Nat) (ha : a < 65536) (hb : b < 65536) : bits .or .u32 ((a : Int) * 65536) (b : Int) = ((a * 65536 + b : Nat) : Int) := by
  have := u32_or_nat (a * 65536) b (by omega) (by omega)
  rw [Int.natCast_mul, show ((65536 : Nat) : Int) = 65536 from rfl] at this
  rw [this]
  congr 1
  rw [show a * 65536 = a <<< 16 by rw [Nat.shiftLeft_eq], ← Nat.shiftLeft_add_eq_or_of_lt (by omega)]

set_option maxRecDepth 100000 in
set_option maxHeartbeats 2000000 in
theorem tapenat_any {b : Nat} {w : World} (m : Nat) (hm : m ≤ 1000) (h : Tape w b) (hb : b < w.heap.size) :
    Calls Tryd.prog 48 #[.pointer (some ⟨b, 0, none⟩), .int .i64 (m : Int)] w fun e w' => ∃ (x : Nat) (B : Option Addr) (k c : Nat), e = .returned (.slice B k c) ∧ x < Bs m ∧ Num w' (.slice B k c) x ∧ Tape w' b ∧ w.grownBy w' (some b) := by
  go_enter Tryd.func48, Tryd.ntmps48
  go_wp2_with fail
  refine (next_any (m + 1) (by omega) (by omega) h).mono ?_
  rintro e w1 ⟨r, rfl, hr, ht, hg⟩
  go_wp2_with fail
  go_loopw [5, 6] (fun o i wr => ∃ (k : Nat) (ds : List Nat), i = .int .i64 k ∧ k + ds.length ≤ m ∧ Grow wr w.heap.size o ds ∧ Tape wr b ∧ w.grownBy wr (some b)) (fun _ i _ => (intOf i).toNat)
  case atStart => exact ⟨r, [], rfl, by simp; omega, grow_nil _ _, ht, hg⟩
  case round =>
    obtain ⟨k, ds, rfl, hk, hgr, htr, hgw⟩ := hrel
    have hsz := hgw.size
    rcases Nat.eq_zero_or_pos k with rfl | hk0
    · obtain ⟨A1, c1, rfl⟩ := hgr.form
      have hraw := hgr.raw (by omega)
      have hlt := val_lt hgr.okD
      have hlt2 := Nat.lt_of_lt_of_le hlt (Bs_mono (show ds.length ≤ m by omega))
      have HL := Lib.hid hlt2
      clear hlt hlt2
      go_wp2_with fail
      refine (ntrim_any hraw).mono ?_
      rintro e w2 ⟨rfl, hN, -, rfl⟩
      go_wp2_with fail
      go_ret
      exact ⟨_, _, _, _, rfl, HL.out, hN, htr, hgw⟩
    · go_wp2_with fail
      refine (next_any 4 (by omega) (by omega) htr).mono ?_
      rintro e w2 ⟨s, rfl, hs, ht2, hg2⟩
      have hgr2 := hgr.other hg2 hb
      have hgw2 := only_trans hgw hg2
      have hsz2 := hgw2.size
      by_cases s0 : s = 0
      · subst s0
        go_wp2_with fail
        refine (next_any 3 (by omega) (by omega) ht2).mono ?_
        rintro e w3 ⟨a, rfl, ha, ht3, hg3⟩
        have hgr3 := hgr2.other hg3 hb
        have hgw3 := only_trans hgw2 hg3
        have hsz3 := hgw3.size
        have hlit := (own_lit w3 #[.int .u32 (a : Int)] [a] rfl).raw_all (okD_one (by omega)) (by simp) 1 1 rfl (Nat.le_refl _)
        go_wp2_with (at_builtin; refine wpList_append_digs rfl _ _ _ _ rfl Tryd.underlying25 Tryd.underlying25 w.heap.size rfl (grow_alloc hgr3 _) rfl hlit (by simp; omega) (by simp; omega) ?_; intro v4 w4 hg4 hgr4 hb4)
        have hb5 := (Below.refl w.heap.size w3).alloc hsz3 (.cells #[.int .u32 (a : Int)] 68) |>.trans hb4
        have ht5 := ht3.keep hb5 hb
        have hgw5 := only_below hgw3 hb5 (Nat.le_refl _)
        go_wp2_with fail
        go_roundw
        case rel => exact ⟨k - 1, _, by go_num, by simp; omega, hg4, ht5, hgw5⟩
        case measure => simp [intOf]; omega
      · by_cases s1 : s = 1
        · subst s1
          go_wp2_with fail
          refine (next_any 2 (by omega) (by omega) ht2).mono ?_
          rintro e w3 ⟨a, rfl, ha, ht3, hg3⟩
          have hgr3 := hgr2.other hg3 hb
          have hgw3 := only_trans hgw2 hg3
          have hsz3 := hgw3.size
          have hlit := (own_lit w3 #[.int .u32 (4294967295 - (a : Int))] [4294967295 - a] (by simp [dv]; omega)).raw_all (okD_one (by omega)) (by simp) 1 1 rfl (Nat.le_refl _)
          go_wp2_with (at_builtin; refine wpList_append_digs rfl _ _ _ _ rfl Tryd.underlying25 Tryd.underlying25 w.heap.size rfl (grow_alloc hgr3 _) rfl hlit (by simp; omega) (by simp; omega) ?_; intro v4 w4 hg4 hgr4 hb4)
          have hb5 := (Below.refl w.heap.size w3).alloc hsz3 (.cells #[.int .u32 (4294967295 - (a : Int))] 68) |>.trans hb4
          have ht5 := ht3.keep hb5 hb
          have hgw5 := only_below hgw3 hb5 (Nat.le_refl _)
          go_wp2_with fail
          go_roundw
          case rel => exact ⟨k - 1, _, by go_num, by simp; omega, hg4, ht5, hgw5⟩
          case measure => simp [intOf]; omega
        · have hs0 : ((s : Int) == 0) = false := by rw [beq_eq_false_iff_ne]; omega
          have hs1 : ((s : Int) == 1) = false := by rw [beq_eq_false_iff_ne]; omega
          go_wp2_with fail
          refine (next_any 65536 (by omega) (by omega) ht2).mono ?_
          rintro e w3 ⟨a, rfl, ha, ht3, hg3⟩
          have hgr3 := hgr2.other hg3 hb
          have hgw3 := only_trans hgw2 hg3
          have hsz3 := hgw3.size
          go_wp2_with fail
          refine (next_any 65536 (by omega) (by omega) ht3).mono ?_
          rintro e w4 ⟨a2, rfl, ha2, ht4, hg4⟩
          have hgr4 := hgr3.other hg4 hb
          have hgw4 := only_trans hgw3 hg4
          have hsz4 := hgw4.size
          have hor := or16 a a2 ha ha2
          have hlit := (own_lit w4 #[.int .u32 ((a : Int) * 65536 + (a2 : Int))] [a * 65536 + a2] (by simp [dv])).raw_all (okD_one (by omega)) (by simp) 1 1 rfl (Nat.le_refl _)
          go_wp2_with (at_builtin; refine wpList_append_digs rfl _ _ _ _ rfl Tryd.underlying25 Tryd.underlying25 w.heap.size rfl (grow_alloc hgr4 _) rfl hlit (by simp; omega) (by simp; omega) ?_; intro v5 w5 hg5 hgr5 hb5)
          have hb6 := (Below.refl w.heap.size w4).alloc hsz4 (.cells #[.int .u32 ((a : Int) * 65536 + (a2 : Int))] 68) |>.trans hb5
          have ht6 := ht4.keep hb6 hb
          have hgw6 := only_below hgw4 hb6 (Nat.le_refl _)
          go_wp2_with fail
          go_roundw
          case rel => exact ⟨k - 1, _, by go_num, by simp; omega, hg5, ht6, hgw6⟩
          case measure => simp [intOf]; omega
end Go.Proofs.YtkhfadfjkmhpgaaDoor
