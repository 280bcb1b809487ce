/-
  What only some of the statements need.
-/
import Derived.Tactics
import Derived.Tactics2
import Derived.WalkKit
import Derived.IntWalk
import Derived.Deep.Draws
import Derived.Deep.QuietTactic
import Derived.BigQuiet
import Derived.Lib.Hide
import Derived.KernelRfl
import Derived.Maps.AppendAt
import Derived.OwnWalk
import Derived.Deep.RegionHeld3
import Derived.Deep.DrawnRows
import Derived.Handy
import Derived.Test.YtlpgbflajcfgpaaGreatDoorB1
import Derived.Test.YtlpgbflajcfgpaaGreatDoorDivLong
import Derived.Test.YtlpgbflajcfgpaaGreatDoorK1
import Derived.Test.YtlpgbflajcfgpaaGreatDoorK10
import Derived.Test.YtlpgbflajcfgpaaGreatDoorK2
import Derived.Test.YtlpgbflajcfgpaaGreatDoorK3
import Derived.Test.YtlpgbflajcfgpaaGreatDoorK4
import Derived.Test.YtlpgbflajcfgpaaGreatDoorK5
import Derived.Test.YtlpgbflajcfgpaaGreatDoorK6
import Derived.Test.YtlpgbflajcfgpaaGreatDoorK7
import Derived.Test.YtlpgbflajcfgpaaGreatDoorK8
import Derived.Test.YtlpgbflajcfgpaaGreatDoorK9
import Derived.Test.YtlpgbflajcfgpaaGreatDoorL8
import Derived.Test.YtlpgbflajcfgpaaGreatDoorR1
import Derived.Test.YtlpgbflajcfgpaaGreatDoorS1
import Derived.Test.YtlpgbflajcfgpaaGreatDoorShelf
namespace Go.Proofs.YtlpgbflajcfgpaaGreatDoor

end Go.Proofs.YtlpgbflajcfgpaaGreatDoor
namespace Go.Proofs.YtlpgbflajcfgpaaGreatDoor
open Go.RowKit

section
variable {w w' : World} {v : Value} {ds : List Nat}
end

section
variable {w w' : World} {g : Nat} {ds : List Nat}
end

end Go.Proofs.YtlpgbflajcfgpaaGreatDoor
namespace Go.Proofs.YtlpgbflajcfgpaaGreatDoor
open Go.RowKit

section
variable {w w' : World} {B : Nat} {v : Value} {ds : List Nat}
end

end Go.Proofs.YtlpgbflajcfgpaaGreatDoor
namespace Go.Proofs.YtlpgbflajcfgpaaGreatDoor
open Go.RowKit

end Go.Proofs.YtlpgbflajcfgpaaGreatDoor
namespace Go.Proofs.YtlpgbflajcfgpaaGreatDoor
open Go.RowKit

set_option maxRecDepth 100000 in
/-- Nats: a copy with zeros at the end. -/
theorem nats_any {A : Option Addr} {n c : Nat} {ds : List Nat} {w : World} (hx : Raw w (.slice A n c) ds) (z : Nat) (hz : z ≤ 1000) (hl : ds.length < 999999000) :
    Calls Tryz.prog 64 #[.slice A n c, .int .i64 (z : Int)] w fun e w' => ∃ v, e = .returned v ∧ Grow w' w.heap.size v (ds ++ List.replicate (z % 3) 0) ∧ Below w.heap.size w w' := by
  go_enter Tryz.func64, Tryz.ntmps64
  go_wp2_with (at_builtin; refine wpList_append_digs rfl _ _ _ _ rfl Tryz.underlying23 Tryz.underlying32 w.heap.size rfl (grow_empty w) rfl (raw_alloc hx _) (by simp) (by simp; omega) ?_; intro v' w1 hg hgr hb)
  rw [List.nil_append] at hg
  have hb2 := (below_alloc w (.cells #[] 97)).trans hb
  clear hgr hb
  go_wp2_with fail
  go_loopw [5, 6] (fun o i wr => ∃ k : Nat, i = .int .i64 k ∧ k ≤ z % 3 ∧ Grow wr w.heap.size o (ds ++ List.replicate k 0) ∧ Below w.heap.size w wr) (fun _ i _ => z % 3 - (intOf i).toNat)
  case atStart => exact ⟨0, rfl, Nat.zero_le _, by simpa using hg, hb2⟩
  case round =>
    obtain ⟨k, rfl, hk, hgk, hbk⟩ := hrel
    rcases Nat.lt_or_ge k (z % 3) with hlt | hge
    · have hlit := (own_lit wr #[.int .u32 0] [0] rfl).raw_all (okD_one (by omega)) (by simp) 1 1 rfl (Nat.le_refl _)
      have hbs := hbk.size
      go_wp2_with (at_builtin; refine wpList_append_digs rfl _ _ _ _ rfl Tryz.underlying23 Tryz.underlying23 w.heap.size rfl (grow_alloc hgk _) rfl hlit (by simp; omega) (by simp; omega) ?_; intro v2 w2 hg2 hgr2 hb2')
      have hb3 := (hbk.alloc hbs (.cells #[.int .u32 0] 97)).trans hb2'
      go_wp2_with fail
      go_roundw
      case rel => exact ⟨k + 1, by go_num, by omega, by rw [List.replicate_succ', ← List.append_assoc]; exact hg2, hb3⟩
      case measure => simp [intOf]; omega
    · obtain rfl : k = z % 3 := by omega
      go_wp2_with fail
      go_ret
      exact ⟨_, rfl, hgk, hbk⟩
end Go.Proofs.YtlpgbflajcfgpaaGreatDoor
namespace Go.Proofs.YtlpgbflajcfgpaaGreatDoor
open Go.RowKit

end Go.Proofs.YtlpgbflajcfgpaaGreatDoor
namespace Go.Proofs.YtlpgbflajcfgpaaGreatDoor
open Go.RowKit

end Go.Proofs.YtlpgbflajcfgpaaGreatDoor
namespace Go.Proofs.YtlpgbflajcfgpaaGreatDoor
open Go.RowKit

end Go.Proofs.YtlpgbflajcfgpaaGreatDoor
namespace Go.Proofs.YtlpgbflajcfgpaaGreatDoor
open Go.RowKit



theorem take_succ_eq {ds es : List Nat} {k : Nat} (h1 : k < ds.length) (h2 : k < es.length) (h : ds.take k = es.take k) (hd : ds.getD k 0 = es.getD k 0) : ds.take (k + 1) = es.take (k + 1) := by
  rw [List.take_succ_eq_append_getElem h1, List.take_succ_eq_append_getElem h2, h]
  rw [List.getD_eq_getElem?_getD, List.getD_eq_getElem?_getD, List.getElem?_eq_getElem h1, List.getElem?_eq_getElem h2] at hd
  simp only [Option.getD_some] at hd
  rw [hd]

set_option maxRecDepth 100000 in
set_option maxHeartbeats 800000 in
theorem same_any {A A' : Option Addr} {n n' c c' : Nat} {ds es : List Nat} {w : World} (hx : Raw w (.slice A n c) ds) (hy : Raw w (.slice A' n' c') es) :
    Calls Tryz.prog 74 #[.slice A n c, .slice A' n' c'] w fun e w' => e = .returned (.bool (decide (ds = es))) ∧ ∃ j, w' = w.drewN j := by
  obtain ⟨hn, hc⟩ := hx.cap
  obtain ⟨hn', hc'⟩ := hy.cap
  have hl := hx.len
  have hl' := hy.len
  subst hn
  subst hn'
  by_cases hlen : ds.length = es.length
  · have HL := Lib.hid hlen
    have hlB : ((ds.length : Int) != (es.length : Int)) = false := by simp [hlen]
    clear hlen
    go_enter Tryz.func74, Tryz.ntmps74
    go_wp2
    go_loopw [13] (fun i wr => ∃ k j : Nat, k ≤ ds.length ∧ i = .int .i64 k ∧ ds.take k = es.take k ∧ wr = w.drewN j) (fun i _ => ds.length - (intOf i).toNat)
    case atStart => exact ⟨0, 0, Nat.zero_le _, rfl, by simp, rfl⟩
    case round =>
      obtain ⟨k, j, hk, rfl, ht, rfl⟩ := hrel
      have HT := Lib.hid ht
      clear ht
      rcases Nat.lt_or_ge k ds.length with hlt | hge
      · obtain ⟨ad, hA, hb, hcx⟩ := hx.at_ (j := k) hlt
        obtain ⟨ad', hA', hb', hcy⟩ := hy.at_ (j := k) (by have := HL.out; omega)
        subst hA
        subst hA'
        obtain ⟨dx, hdx⟩ : ∃ d, ds.getD k 0 = d := ⟨_, rfl⟩
        obtain ⟨dy, hdy⟩ : ∃ d, es.getD k 0 = d := ⟨_, rfl⟩
        rw [hdx] at hcx
        rw [hdy] at hcy
        have HDX := Lib.hid hdx
        have HDY := Lib.hid hdy
        clear hdx hdy
        have hlt' : k < es.length := by have := HL.out; omega
        by_cases he : dx = dy
        · subst he
          go_wp2_with fail
          go_quiet (fail)
          go_wp2_with fail
          go_roundw
          case rel => exact ⟨k + 1, _, by omega, by go_num, take_succ_eq hlt hlt' HT.out (by rw [HDX.out, HDY.out]), rfl⟩
          case measure => simp [intOf]; omega
        · have hne : ((dx : Int) != (dy : Int)) = true := by simp; omega
          have HE := Lib.hid he
          clear he
          go_wp2_with fail
          go_quiet (fail)
          go_wp2_with fail
          go_ret
          refine ⟨?_, _, World.drewN_drewN _ _ _⟩
          have : ds ≠ es := fun h => HE.out (by rw [← HDX.out, ← HDY.out, h])
          simp [this]
      · obtain rfl : k = ds.length := by omega
        go_wp2_with fail
        go_ret
        refine ⟨?_, _, rfl⟩
        have h := HT.out
        rw [List.take_of_length_le (Nat.le_refl _), List.take_of_length_le (by have := HL.out; omega)] at h
        simp [h]
  · have hlB : ((ds.length : Int) != (es.length : Int)) = true := by simp; omega
    have HL := Lib.hid hlen
    clear hlen
    go_enter Tryz.func74, Tryz.ntmps74
    go_wp2
    go_ret
    refine ⟨?_, 0, rfl⟩
    have : ds ≠ es := fun h => HL.out (by rw [h])
    simp [this]
end Go.Proofs.YtlpgbflajcfgpaaGreatDoor
namespace Go.Proofs.YtlpgbflajcfgpaaGreatDoor
open Go.RowKit

end Go.Proofs.YtlpgbflajcfgpaaGreatDoor
namespace Go.Proofs.YtlpgbflajcfgpaaGreatDoor
open Go.RowKit

end Go.Proofs.YtlpgbflajcfgpaaGreatDoor
namespace Go.Proofs.YtlpgbflajcfgpaaGreatDoor
open Go.RowKit

end Go.Proofs.YtlpgbflajcfgpaaGreatDoor
namespace Go.Proofs.YtlpgbflajcfgpaaGreatDoor
open Go.RowKit

end Go.Proofs.YtlpgbflajcfgpaaGreatDoor
namespace Go.Proofs.YtlpgbflajcfgpaaGreatDoor
open Go.RowKit
attribute [local go_sem ↓] Go.wp_at_zero Go.wp_at_succ

end Go.Proofs.YtlpgbflajcfgpaaGreatDoor
namespace Go.Proofs.YtlpgbflajcfgpaaGreatDoor
open Go.RowKit

section
variable {w w' : World} {v : Value} {x L b : Nat}
end
section
variable {A A' : Option Addr} {n n' c c' x y L L' : Nat} {w : World}
theorem nats_v {b : Nat} (hx : NV w (.slice A n c) x L) (z : Nat) (hz : z ≤ 1000) (hb : b < w.heap.size) (hL : L ≤ 1000000) :
    Calls Tryz.prog 64 #[.slice A n c, .int .i64 (z : Int)] w fun e w' => ∃ B k d, e = .returned (.slice B k d) ∧ GV w' b (.slice B k d) x (L + 2) ∧ Below w.heap.size w w' := by
  have hl := digs_length_le hx.2
  refine (nats_any hx.1 z hz (by omega)).mono ?_
  rintro e w' ⟨v, rfl, hg, hbl⟩
  obtain ⟨B, d, rfl⟩ := hg.form
  refine ⟨B, _, d, rfl, ⟨w.heap.size, _, hb, hg, ?_, ?_⟩, hbl⟩
  · rw [val_append, val_replicate, val_digs]; omega
  · rw [List.length_append, List.length_replicate]; omega
end
end Go.Proofs.YtlpgbflajcfgpaaGreatDoor
namespace Go.Proofs.YtlpgbflajcfgpaaGreatDoor
open Go.RowKit

section
variable {w w' : World} {g B : Nat} {cs ds es fs : Array Value} {t u v x : TypeId}
theorem boxes4 (w : World) (cs ds es fs : Array Value) (t u v x : TypeId) : ∃ W, (((w.alloc (.cells cs t)).alloc (.cells ds u)).alloc (.cells es v)).alloc (.cells fs x) = W ∧ Box W w.heap.size cs t ∧ Box W (w.heap.size + 1) ds u ∧ Box W (w.heap.size + 1 + 1) es v ∧ Box W (w.heap.size + 1 + 1 + 1) fs x ∧ Below w.heap.size w W ∧ W.heap.size = w.heap.size + 4 := by
  obtain ⟨V, hV, h1, h2, h3, h4, h5⟩ := boxes3 w cs ds es t u v
  obtain ⟨W, hW, k1, k2, k3⟩ := boxes1 V fs x
  rw [h5] at k1
  exact ⟨W, by rw [hV, hW], h1.below k2, h2.below k2, h3.below k2, k1, h4.trans (k2.mono h4.size), by omega⟩
end
end Go.Proofs.YtlpgbflajcfgpaaGreatDoor
namespace Go.Proofs.YtlpgbflajcfgpaaGreatDoor
open Go.RowKit

section
variable {w w' : World} {g g' B : Nat} {cs : Array Value} {t : TypeId}
theorem only_store3hi (w : World) (g : Nat) (u3 u4 u5 : Value) : w.grownBy (((w.setCell ⟨g, 3, none⟩ u3).setCell ⟨g, 4, none⟩ u4).setCell ⟨g, 5, none⟩ u5) (some g) :=
  only_trans (only_trans (only_setCell w ⟨g, 3, none⟩ u3) (only_setCell _ ⟨g, 4, none⟩ u4)) (only_setCell _ ⟨g, 5, none⟩ u5)
end
end Go.Proofs.YtlpgbflajcfgpaaGreatDoor
namespace Go.Proofs.YtlpgbflajcfgpaaGreatDoor
open Go.RowKit

theorem sq_pos {a b : Rat} (h : a ≠ 0) : 0 < a * a + b * b := by
  have h1 : 0 < a * a := by
    rcases rat_tri a 0 with h2 | h2 | h2
    · have := Rat.mul_pos (show 0 < -a by grind) (show 0 < -a by grind); grind
    · exact absurd h2 h
    · exact Rat.mul_pos h2 h2
  have h3 : 0 ≤ b * b := by
    rcases rat_tri b 0 with h2 | h2 | h2
    · have := Rat.mul_pos (show 0 < -b by grind) (show 0 < -b by grind); grind
    · subst h2; grind
    · have := Rat.mul_pos h2 h2; grind
  grind
/-- Between: lexicographic order against the inner product, on a line -/
theorem lex_dot (d1 d2 e1 e2 : Rat) (h : rsg (d1 * e2 - d2 * e1) = 0) :
    (0 ≤ (if rsg d1 = 0 then rsg d2 else rsg d1) * -(if rsg e1 = 0 then rsg e2 else rsg e1)) ↔ rsg (d1 * e1 + d2 * e2) ≤ 0 := by
  rw [rsg_zero_iff] at h
  rcases Decidable.em (d1 = 0) with h1 | h1
  · subst h1
    rw [if_pos (rsg_zer rfl), show (0 : Rat) * e1 + d2 * e2 = d2 * e2 by grind, rsg_mul]
    rcases Decidable.em (e1 = 0) with h2 | h2
    · rw [if_pos (rsg_zer h2)]; constructor <;> intro _ <;> grind
    · have h3 : d2 * e1 = 0 := by grind
      rcases Rat.mul_eq_zero.1 h3 with h4 | h4
      · subst h4; rw [rsg_zer rfl]; simp
      · exact absurd h4 h2
  · rw [if_neg (fun k => h1 (rsg_zero_iff.1 k))]
    have e : rsg d1 * rsg d1 * rsg (d1 * e1 + d2 * e2) = rsg d1 * rsg e1 := by
      rw [← rsg_mul, ← rsg_mul, ← rsg_mul, show d1 * d1 * (d1 * e1 + d2 * e2) = (d1 * e1) * (d1 * d1 + d2 * d2) by grind, rsg_mul, rsg_pos (sq_pos h1), Int.mul_one]
    have ee : rsg d1 * rsg d1 = 1 := by rcases rsg_cases d1 with ⟨e, _⟩ | ⟨_, h⟩ | ⟨e, _⟩ <;> first | (rw [e]; rfl) | exact absurd h h1
    rw [ee, Int.one_mul] at e
    rw [e]
    rcases Decidable.em (e1 = 0) with h2 | h2
    · subst h2
      have h3 : d1 * e2 = 0 := by grind
      rcases Rat.mul_eq_zero.1 h3 with h4 | h4
      · exact absurd h4 h1
      · subst h4; rw [rsg_zer rfl]; simp
    · rw [if_neg (fun k => h2 (rsg_zero_iff.1 k))]
      constructor <;> intro _ <;> grind
end Go.Proofs.YtlpgbflajcfgpaaGreatDoor
