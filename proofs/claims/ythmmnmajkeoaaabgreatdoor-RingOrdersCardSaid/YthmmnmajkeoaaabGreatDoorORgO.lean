/-
  What corners visits; whether a ring opens.
-/
import Derived.Test.YthmmnmajkeoaaabGreatDoorORgE
import Derived.RangeFuncNested
import Derived.RangeFuncBound
import Derived.RangeFuncCalls
import Derived.RangeFuncLeaves
import Derived.RangeFuncBox
import Derived.Shelf.Abstract
import Derived.Shelf.RegionOpen
import Derived.WalkKit
import Derived.OwnWalkIn
import Derived.TacticsInMore
import Derived.LoopNIn
import Derived.LoopIn
import Derived.IntWalk
namespace Go.Proofs.YthmmnmajkeoaaabGreatDoor
open Go.RowKit Go.Shelf
attribute [local go_sem] Oper.semAt_some
section
variable {w : World} {L : Nat}
theorem corn_stops (n : Nat) (hn : 1 ≤ n) (Bs : Nat) {A : Option Addr} {n0 cap : Nat} (zs : List PP) (hlen : zs.length ≤ 90000) (W0 : World)
    (hBs : W0.cell? ⟨Bs, 0, none⟩ = some (.slice A n0 cap)) (hS : ReadR W0 6 (.slice A n0 cap) (rowsP zs)) :
    SeqStopsK Fence.wide n Tryz.prog 100 #[.pointer (some ⟨Bs, 0, none⟩)] (encC zs) (Below W0.heap.size) (fun ys => List.map (fun x : CornT zs => x.1) ys = upto (cornP zs) zs.length) (fun _ => True) zs.length W0 := fun l J Jx W hW hJ _ hY hj =>
  corn1_in (w := W0) n hn l Bs zs hlen J Jx W hJ hY hW hBs hS hj
theorem corners_v (A : Option Addr) (n c : Nat) (w : World) :
    Calls Tryz.prog 72 #[.slice A n c] w fun e w' => e = .returned (.func (.func 100) #[] #[.pointer (some ⟨w.heap.size, 0, none⟩)]) ∧ w' = w.alloc (.cells #[.slice A n c] 30) := by
  go_enter Tryz.func72, Tryz.ntmps72
  go_wp2_with fail
  go_ret
  exact ⟨rfl, rfl⟩
/-- Whether two neighbors of a vertex differ. -/
def opensB (zs : List PP) : Bool := (upto (cornP zs) zs.length).any fun x => !decide (x.1.pt = x.2.2.pt)
set_option maxRecDepth 100000 in
set_option maxHeartbeats 4000000 in
theorem opens_v {A : Option Addr} {n c : Nat} {zs : List PP} (hS : ReadR w 6 (.slice A n c) (rowsP zs)) (hF : FN w L zs) (hlen : zs.length ≤ 90000) (hL : L ≤ 100000) :
    Calls Tryz.prog 46 #[.slice A n c] w fun e w' => e = .returned (.bool (opensB zs)) ∧ Below w.heap.size w w' := by
  refine (callsIn_wide (n := 3)).1 ?_
  refine callsIn_of_wp_marks Tryz.func46 rfl trivial ?_ rfl
  simp only [Tryz.ntmps46, List.size_toArray, List.length_cons, List.length_nil, Nat.reduceAdd, Nat.reduceSub, Array.replicate_succ, Array.replicate_zero, List.push_toArray, List.append_toArray, List.nil_append, List.cons_append]
  gi_wp2_with (refine ⟨trivial, ?_⟩; gi_at_call 72; refine (callsIn_wide.2 (corners_v A n c _)).mono ?_; rintro e w' ⟨rfl, rfl⟩)
  obtain ⟨W0, hW0, bR, bS, hb0, hsz⟩ := boxes2 w #[.bool false] #[.slice A n c] 4 30
  rw [hW0]
  clear hW0
  have cq := bS.cell 0 _ rfl
  have hS0 := hS.below hb0
  have hF0 := hF.below hb0
  have hw0 : w.heap.size ≤ W0.heap.size := by omega
  clear hS hF bS
  have HM : ∀ x : CornT zs, x.1 ∈ upto (cornP zs) zs.length := fun x => by
    obtain ⟨x, i, hi, rfl⟩ := x
    exact List.mem_map.2 ⟨i, List.mem_range.2 hi, rfl⟩
  refine wpIn_rangeFunc_ownH rfl (by decide) (gf := 100) (lb := #[.pointer (some ⟨w.heap.size + 1, 0, none⟩)]) rfl trivial (enters_of Tryz.func100 (by kernel_rfl) rfl)
    (corn_stops 2 (by decide) (w.heap.size + 1) zs hlen W0 cq hS0) belowK_t (belowK_b (Nat.le_refl _)) (Below.refl _ _) (fun _ => rfl)
    (fun pre W => (Box W w.heap.size #[.bool false] 4 ∧ ∀ y ∈ pre, y.1.1.pt = y.1.2.2.pt) ∧ Below W0.heap.size W0 W)
    (fun c pre W => c = .ret ∧ opensB zs = true ∧ Box W w.heap.size #[.bool true] 4 ∧ Below w.heap.size w W)
    (OwnFrom.and (fun pre X Y row hs hg hr => ⟨hs.1.notRow hg (fun r e => (hr r e).2), hs.2⟩) (ownFrom_below (Nat.le_refl _) (Nat.le_refl _)))
    (fun c pre X Y row hs hg hr => ⟨hs.1, hs.2.1, hs.2.2.1.notRow hg (fun r e => (hr r e).2), ownFrom_below (β := Unit) (B := W0.heap.size) (Nat.le_refl _) hw0 () X Y row hs.2.2.2 hg hr⟩)
    ⟨⟨bR, fun _ h => (by cases h)⟩, Below.refl _ _⟩
    (fun x a' W => ∃ Bx, W0.heap.size ≤ Bx ∧ Box W Bx #[.bool x.1.1.s0, .slice x.1.1.A0 x.1.1.n0 x.1.1.c0, .slice x.1.1.D0 x.1.1.m0 x.1.1.e0, .bool x.1.1.s1, .slice x.1.1.A1 x.1.1.n1 x.1.1.c1, .slice x.1.1.D1 x.1.1.m1 x.1.1.e1, .bool x.1.2.1.s0, .slice x.1.2.1.A0 x.1.2.1.n0 x.1.2.1.c0, .slice x.1.2.1.D0 x.1.2.1.m0 x.1.2.1.e0, .bool x.1.2.1.s1, .slice x.1.2.1.A1 x.1.2.1.n1 x.1.2.1.c1, .slice x.1.2.1.D1 x.1.2.1.m1 x.1.2.1.e1, .bool x.1.2.2.s0, .slice x.1.2.2.A0 x.1.2.2.n0 x.1.2.2.c0, .slice x.1.2.2.D0 x.1.2.2.m0 x.1.2.2.e0, .bool x.1.2.2.s1, .slice x.1.2.2.A1 x.1.2.2.n1 x.1.2.2.c1, .slice x.1.2.2.D1 x.1.2.2.m1 x.1.2.2.e1] 120 ∧ a' = { tmps := #[.slice A n c, undef, .pointer (some ⟨w.heap.size, 0, none⟩), .pointer (some ⟨Bx, 0, none⟩), .slice A n c, .func (.func 100) #[] #[.pointer (some ⟨w.heap.size + 1, 0, none⟩)], .agg #[.bool x.1.1.s0, .slice x.1.1.A0 x.1.1.n0 x.1.1.c0, .slice x.1.1.D0 x.1.1.m0 x.1.1.e0, .bool x.1.1.s1, .slice x.1.1.A1 x.1.1.n1 x.1.1.c1, .slice x.1.1.D1 x.1.1.m1 x.1.1.e1, .bool x.1.2.1.s0, .slice x.1.2.1.A0 x.1.2.1.n0 x.1.2.1.c0, .slice x.1.2.1.D0 x.1.2.1.m0 x.1.2.1.e0, .bool x.1.2.1.s1, .slice x.1.2.1.A1 x.1.2.1.n1 x.1.2.1.c1, .slice x.1.2.1.D1 x.1.2.1.m1 x.1.2.1.e1, .bool x.1.2.2.s0, .slice x.1.2.2.A0 x.1.2.2.n0 x.1.2.2.c0, .slice x.1.2.2.D0 x.1.2.2.m0 x.1.2.2.e0, .bool x.1.2.2.s1, .slice x.1.2.2.A1 x.1.2.2.n1 x.1.2.2.c1, .slice x.1.2.2.D1 x.1.2.2.m1 x.1.2.2.e1], undef, undef, undef, undef, undef, undef], defers := [] })
    (fun x a' _ X Y row hs hg hr => by
      obtain ⟨Bx, k0, k1, k3⟩ := hs
      exact ⟨Bx, k0, k1.notRow hg (fun r e => (hr r e).2), k3⟩)
    ?assign ?body ?done ?stop
  case assign =>
    rintro l pre x W K ⟨⟨k1, k2⟩, k3⟩ hK
    obtain ⟨W5, hW5, b5, hb5, hs5⟩ := boxes1 W #[.bool x.1.1.s0, .slice x.1.1.A0 x.1.1.n0 x.1.1.c0, .slice x.1.1.D0 x.1.1.m0 x.1.1.e0, .bool x.1.1.s1, .slice x.1.1.A1 x.1.1.n1 x.1.1.c1, .slice x.1.1.D1 x.1.1.m1 x.1.1.e1, .bool x.1.2.1.s0, .slice x.1.2.1.A0 x.1.2.1.n0 x.1.2.1.c0, .slice x.1.2.1.D0 x.1.2.1.m0 x.1.2.1.e0, .bool x.1.2.1.s1, .slice x.1.2.1.A1 x.1.2.1.n1 x.1.2.1.c1, .slice x.1.2.1.D1 x.1.2.1.m1 x.1.2.1.e1, .bool x.1.2.2.s0, .slice x.1.2.2.A0 x.1.2.2.n0 x.1.2.2.c0, .slice x.1.2.2.D0 x.1.2.2.m0 x.1.2.2.e0, .bool x.1.2.2.s1, .slice x.1.2.2.A1 x.1.2.2.n1 x.1.2.2.c1, .slice x.1.2.2.D1 x.1.2.2.m1 x.1.2.2.e1] 120
    have hk5 : KeepsOthers W W5 := by rw [← hW5]; exact KeepsOthers.alloc _ _
    dsimp only [encC]
    gi_wp2
    exact hK _ _ (hk5.from _) (hb5.mono k3.size) ⟨⟨k1.below hb5, k2⟩, k3.trans (hb5.mono k3.size)⟩ ⟨W.heap.size, k3.size, b5, rfl⟩
  case body =>
    rintro l pre x a' W hl ⟨r, hr⟩ ⟨⟨k1, k2⟩, k3⟩ ⟨Bx, hBx, b5, rfl⟩ hlt
    have hFW := hF0.below k3
    have hx := corn_mem x
    have hp := hFW _ hx.1
    have hq := hFW _ hx.2
    clear hFW
    have x0 := b5.cell 0 _ rfl
    have x1 := b5.cell 1 _ rfl
    have x2 := b5.cell 2 _ rfl
    have x3 := b5.cell 3 _ rfl
    have x4 := b5.cell 4 _ rfl
    have x5 := b5.cell 5 _ rfl
    have x6 := b5.cell 6 _ rfl
    have x7 := b5.cell 7 _ rfl
    have x8 := b5.cell 8 _ rfl
    have x9 := b5.cell 9 _ rfl
    have x10 := b5.cell 10 _ rfl
    have x11 := b5.cell 11 _ rfl
    have x12 := b5.cell 12 _ rfl
    have x13 := b5.cell 13 _ rfl
    have x14 := b5.cell 14 _ rfl
    have x15 := b5.cell 15 _ rfl
    have x16 := b5.cell 16 _ rfl
    have x17 := b5.cell 17 _ rfl
    by_cases hpt : ¬ x.1.1.pt = x.1.2.2.pt
    · have hd : decide (x.1.1.pt = x.1.2.2.pt) = false := decide_eq_false hpt
      have hst : opensB zs = true := List.any_eq_true.2 ⟨x.1, HM x, by rw [hd]; rfl⟩
      gi_wp2_with (refine ⟨trivial, ?_⟩; gi_at_call 71; refine (CallsIn.inRound l (callsIn_wide.2 (same_pp hp hq hL))).mono ?_; rintro e W3 ⟨rfl, hb⟩; have k1 := k1.below hb; have cR := k1.cell 0 _ rfl; have fR := k1.frozen 0)
      exact ⟨((keepsB hb).trans (KeepsOthers.setCell _ _ _)).from _, rfl, hst, k1.stored1 _, ((hb0.trans (k3.mono hw0)).trans (hb.mono (Nat.le_trans hw0 k3.size))).setCell (p := ⟨w.heap.size, 0, none⟩) (Nat.le_refl _) _⟩
    · have hd : decide (x.1.1.pt = x.1.2.2.pt) = true := decide_eq_true (Decidable.not_not.1 hpt)
      gi_wp2_with (refine ⟨trivial, ?_⟩; gi_at_call 71; refine (CallsIn.inRound l (callsIn_wide.2 (same_pp hp hq hL))).mono ?_; rintro e W3 ⟨rfl, hb⟩; have k1 := k1.below hb; have cR := k1.cell 0 _ rfl; have fR := k1.frozen 0)
      exact ⟨(keepsB hb).from _, hb.mono k3.size, ⟨k1, fun y hy => (List.mem_append.1 hy).elim (k2 y) (fun h => by rw [List.mem_singleton.1 h]; exact Decidable.not_not.1 hpt)⟩, k3.trans (hb.mono k3.size)⟩
  case done =>
    rintro D ys W hD hys ⟨⟨k1, k2⟩, k3⟩ hK
    have hst : opensB zs = false := by
      unfold opensB
      rw [← hys, List.any_eq_false]
      intro y hy
      obtain ⟨z, hz, rfl⟩ := List.mem_map.1 hy
      simpa using k2 z hz
    have cR := k1.cell 0 _ rfl
    have fR := k1.frozen 0
    gi_wp2
    have hK' := (KeepsOthers.setCell W ⟨w.heap.size, 0, none⟩ (.bool false)).same D _ hK rfl
    refine ⟨by simp, .inl ⟨_, _, rfl, run_takeDeferred hK', ?_⟩⟩
    have hc5 := ((k1.stored1 (.bool false)).notRow (grownBy_putObj' _ D (.deferred none)) (fun r e => by cases e; exact ⟨_, hK', rfl⟩)).cell 0 _ rfl
    have hB9 := ((hb0.trans (k3.mono hw0)).setCell (p := ⟨w.heap.size, 0, none⟩) (Nat.le_refl _) (.bool false)).trans (belowK_b (w := w) (Nat.le_refl _) _ D _ (.deferred none) (by omega) hK' rfl rfl)
    exact ⟨.bool false, by simp [results, Tryz.f46, go_sem, hc5], by rw [hst], hB9⟩
  case stop =>
    rintro D c pre W hD _ ⟨rfl, hst, k1, k2⟩ hK
    gi_wp2
    refine ⟨by simp, .inl ⟨_, _, rfl, run_takeDeferred hK, ?_⟩⟩
    have hc5 := (k1.notRow (grownBy_putObj' _ D (.deferred none)) (fun r e => by cases e; exact ⟨_, hK, rfl⟩)).cell 0 _ rfl
    have hB9 := k2.trans (belowK_b (w := w) (Nat.le_refl _) _ D _ (.deferred none) (by omega) hK rfl rfl)
    exact ⟨.bool true, by simp [results, Tryz.f46, go_sem, hc5], by rw [hst], hB9⟩
end
end Go.Proofs.YthmmnmajkeoaaabGreatDoor
