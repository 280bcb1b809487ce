/-
  What edges visits; whether an edge joins a point with itself.
-/
import Derived.Test.YthmmnmajkeoaaabGreatDoorOFen
import Derived.Test.YthmmnmajkeoaaabGreatDoorORgA
import Derived.RangeFuncNested
import Derived.RangeFuncBound
import Derived.RangeFuncCalls
import Derived.RangeFuncLeaves
import Derived.RangeFuncBox
import Derived.Shelf.Abstract
import Derived.Shelf.RegionOpen
import Derived.WalkKit
import Derived.OwnWalkIn
import Derived.TacticsInMore
import Derived.LoopNIn
import Derived.LoopIn
import Derived.IntWalk
namespace Go.Proofs.YthmmnmajkeoaaabGreatDoor
open Go.RowKit Go.Shelf
attribute [local go_sem] Oper.semAt_some
section
variable {w : World} {L : Nat}
theorem cmpq_same {a b c d : Rat} : (cmpQ a b c d == 0) = decide ((a, b) = (c, d)) := by
  have h0 : ∀ p q : Rat, rsg (p - q) = 0 ↔ p = q := fun p q => by rw [rsg_zero_iff]; constructor <;> intro k <;> grind
  unfold cmpQ
  rw [Bool.eq_iff_iff, beq_iff_eq, decide_eq_true_eq, Prod.mk.injEq]
  by_cases h : rsg (a - c) = 0
  · rw [if_pos h, h0, ← h0 a c]; simp [h]
  · rw [if_neg h]
    constructor
    · intro k; exact absurd k h
    · intro k; exact absurd ((h0 a c).2 k.1) h
theorem same_pp {x y : PP} (h : x.nq w L) (h' : y.nq w L) (hL : L ≤ 100000) :
    Calls Tryz.prog 71 #[.agg #[.bool x.s0, .slice x.A0 x.n0 x.c0, .slice x.D0 x.m0 x.e0, .bool x.s1, .slice x.A1 x.n1 x.c1, .slice x.D1 x.m1 x.e1], .agg #[.bool y.s0, .slice y.A0 y.n0 y.c0, .slice y.D0 y.m0 y.e0, .bool y.s1, .slice y.A1 y.n1 y.c1, .slice y.D1 y.m1 y.e1]] w fun e w' => e = .returned (.bool (decide (x.pt = y.pt))) ∧ Below w.heap.size w w' := by
  refine (psame_v h.1.rq h.2.rq h'.1.rq h'.2.rq hL hL rfl).mono ?_
  rintro e w' ⟨rfl, hb⟩
  exact ⟨by rw [cmpq_same]; rfl, hb⟩
theorem Box.notRow {g : Nat} {cs : Array Value} {t : TypeId} {w' : World} {row : Option Nat} (h : Box w g cs t) (hg : w.grownBy w' row) (hr : ∀ r, row = some r → ∃ o : Obj, w.heap[r]? = some o ∧ o.isCells = false) : Box w' g cs t := by
  refine (hg.block g h.lt fun e => ?_).trans h
  obtain ⟨o, ho, hc⟩ := hr g e.symm
  rw [show w.heap[g]? = _ from h] at ho
  cases ho; cases hc
theorem keepsB {w' : World} (h : Below w.heap.size w w') : KeepsOthers w w' := KeepsOthers.of_grownBy (row := none) (grown_below h) (fun _ _ h => by cases h)
/-- An edge of the ring. -/
def EdgeT (zs : List PP) := {x : PP × PP // ∃ i, i < zs.length ∧ x = edgeP zs i}
def encE (zs : List PP) (x : EdgeT zs) : Array Value := #[.agg #[.bool x.1.1.s0, .slice x.1.1.A0 x.1.1.n0 x.1.1.c0, .slice x.1.1.D0 x.1.1.m0 x.1.1.e0, .bool x.1.1.s1, .slice x.1.1.A1 x.1.1.n1 x.1.1.c1, .slice x.1.1.D1 x.1.1.m1 x.1.1.e1], .agg #[.bool x.1.2.s0, .slice x.1.2.A0 x.1.2.n0 x.1.2.c0, .slice x.1.2.D0 x.1.2.m0 x.1.2.e0, .bool x.1.2.s1, .slice x.1.2.A1 x.1.2.n1 x.1.2.c1, .slice x.1.2.D1 x.1.2.m1 x.1.2.e1]]
theorem snoc_edge {zs : List PP} {ys : List (EdgeT zs)} {k : Nat} {x : EdgeT zs} (h : List.map (fun x : EdgeT zs => x.1) ys = upto (edgeP zs) k) (hx : x.1 = edgeP zs k) : List.map (fun x : EdgeT zs => x.1) (ys ++ [x]) = upto (edgeP zs) (k + 1) := by
  rw [List.map_append, h, upto_succ]
  show _ ++ [x.1] = _
  rw [hx]
theorem edge_mem {zs : List PP} (x : EdgeT zs) : x.1.1 ∈ zs ∧ x.1.2 ∈ zs := by
  obtain ⟨x, i, hi, rfl⟩ := x
  exact ⟨get_mem hi, get_mem (Nat.mod_lt _ (by omega))⟩
set_option maxRecDepth 100000 in
set_option maxHeartbeats 4000000 in
theorem edges1_in (n : Nat) (hn : 1 ≤ n) (l Bs : Nat) {A : Option Addr} {n0 cap : Nat} (zs : List PP) (hlen : zs.length ≤ 90000) (J Jx : List (EdgeT zs) → World → Prop) (W : World) (hJ : AbidesFrom W.heap.size J)
    (hY : ∀ pre x W1, J pre W1 → pre.length < zs.length → YieldAt Fence.wide (n - 1) Tryz.prog l (encE zs x) W1 fun e W' =>
      (e = .returned (.bool true) ∧ J (pre ++ [x]) W' ∧ Below w.heap.size W1 W') ∨ (e = .returned (.bool false) ∧ Jx (pre ++ [x]) W'))
    (hW : Below w.heap.size w W) (hBs : w.cell? ⟨Bs, 0, none⟩ = some (.slice A n0 cap)) (hS : ReadR w 6 (.slice A n0 cap) (rowsP zs)) (h0 : J [] W) :
    CallsIn Fence.wide n Tryz.prog 99 #[.func (.yield l) #[] #[], .pointer (some ⟨Bs, 0, none⟩)] W fun e W' => (∃ v, e = .returned v) ∧ ((∃ ys, List.map (fun x : EdgeT zs => x.1) ys = upto (edgeP zs) zs.length ∧ J ys W') ∨ (∃ pre, True ∧ Jx pre W')) := by
  obtain rfl := pp_len hS
  refine callsIn_of_wp Tryz.func99 rfl trivial ?_ rfl
  simp only [Tryz.ntmps99, List.size_toArray, List.length_cons, List.length_nil, Nat.reduceAdd, Nat.reduceSub, Array.replicate_succ, Array.replicate_zero, List.push_toArray, List.append_toArray, List.nil_append, List.cons_append]
  have cB := (hW.cell (World.block_lt_of_cell? w _ hBs)).trans hBs
  gi_wp2
  clear cB
  gi_loopw [7] (fun i wr => ∃ (k : Nat) (ys : List (EdgeT zs)), k ≤ zs.length ∧ i = .int .i64 k ∧ ys.length = k ∧ List.map (fun x : EdgeT zs => x.1) ys = upto (edgeP zs) k ∧ J ys wr ∧ Below w.heap.size w wr ∧ W.heap.size ≤ wr.heap.size) (fun i _ => zs.length - (intOf i).toNat)
  case atStart => exact ⟨0, [], Nat.zero_le _, rfl, rfl, rfl, h0, hW, Nat.le_refl _⟩
  case round =>
    clear hW h0
    obtain ⟨k, ys, hk, rfl, hyl, hys, hJs, hnx, hsz⟩ := hrel
    by_cases hlt : k < zs.length
    · obtain ⟨a, ha⟩ : ∃ a, zs.getD k default = a := ⟨_, rfl⟩
      obtain ⟨j, hj⟩ : ∃ j, (k + 1) % zs.length = j := ⟨_, rfl⟩
      obtain ⟨b, hb⟩ : ∃ b, zs.getD j default = b := ⟨_, rfl⟩
      have hlt2 : j < zs.length := by rw [← hj]; exact Nat.mod_lt _ (by omega)
      have hne0 : ¬ zs = [] := by rintro rfl; simp at hlt
      have hmod : ((k : Int) + 1).tmod (zs.length : Int) = (j : Int) := by rw [Int.tmod_eq_emod_of_nonneg (by omega), ← hj]; simp
      have he : edgeP zs k = (a, b) := by unfold edgeP; rw [hj, ha, hb]
      have hx1 : zs[k]? = some a := by rw [← ha]; exact get_ok hlt
      have hx2 : zs[j]? = some b := by rw [← hb]; exact get_ok hlt2
      obtain ⟨g, o, rfl, e0, e1, e2, e3, e4, e5⟩ := pp_elem hS hx1
      obtain ⟨g', o', hA2, f0, f1, f2, f3, f4, f5⟩ := pp_elem hS hx2
      injection hA2 with hA2
      injection hA2 with hg1 hg2
      subst hg1 hg2
      obtain ⟨W5, hW5, b4, hb5, hs5⟩ := boxes1 wr #[.bool a.s0, .slice a.A0 a.n0 a.c0, .slice a.D0 a.m0 a.e0, .bool a.s1, .slice a.A1 a.n1 a.c1, .slice a.D1 a.m1 a.e1] 65
      have hJ5 : J ys W5 := hJ _ wr W5 none hJs (by rw [← hW5]; exact World.grownBy_alloc wr _ none) (fun r e => by cases e)
      have hn5 : Below w.heap.size w W5 := hnx.trans (hb5.mono hnx.size)
      obtain ⟨W1, hW1⟩ : ∃ W1, W5.drew = W1 := ⟨_, rfl⟩
      have hd1 : Below W5.heap.size W5 W1 := hW1 ▸ drawn_below W5
      have hn1 : Below w.heap.size w W1 := hn5.trans (hd1.mono hn5.size)
      obtain ⟨fn, tmps, assign, body, hy, hR⟩ := hY ys ⟨(a, b), k, hlt, he.symm⟩ W1 (hJ _ W5 W1 none hJ5 (grown_below hd1) (fun r e => by cases e)) (by omega)
      dsimp only [encE] at hy
      have hs1 : W.heap.size ≤ W1.heap.size := by have := hd1.size; omega
      have e0 := (hnx.cell (World.block_lt_of_cell? w _ e0)).trans e0
      have e1 := (hnx.cell (World.block_lt_of_cell? w _ e1)).trans e1
      have e2 := (hnx.cell (World.block_lt_of_cell? w _ e2)).trans e2
      have e3 := (hnx.cell (World.block_lt_of_cell? w _ e3)).trans e3
      have e4 := (hnx.cell (World.block_lt_of_cell? w _ e4)).trans e4
      have e5 := (hnx.cell (World.block_lt_of_cell? w _ e5)).trans e5
      have f0 := (hn1.cell (World.block_lt_of_cell? w _ f0)).trans f0
      have f1 := (hn1.cell (World.block_lt_of_cell? w _ f1)).trans f1
      have f2 := (hn1.cell (World.block_lt_of_cell? w _ f2)).trans f2
      have f3 := (hn1.cell (World.block_lt_of_cell? w _ f3)).trans f3
      have f4 := (hn1.cell (World.block_lt_of_cell? w _ f4)).trans f4
      have f5 := (hn1.cell (World.block_lt_of_cell? w _ f5)).trans f5
      have cB := (hn1.cell (World.block_lt_of_cell? w _ hBs)).trans hBs
      replace b4 := b4.below hd1
      clear hJs hS hY hJ5 ha hb hx1 hx2 hb5 hs5 hd1
      gi_wp2
      clear hW5 e0 e1 e2 e3 e4 e5
      have x0 := b4.cell 0 _ rfl
      have x1 := b4.cell 1 _ rfl
      have x2 := b4.cell 2 _ rfl
      have x3 := b4.cell 3 _ rfl
      have x4 := b4.cell 4 _ rfl
      have x5 := b4.cell 5 _ rfl
      have w1 : IntKind.i64.wrap ((k : Int) + 1) = ((k + 1 : Nat) : Int) := by have := IntWalk.i64_in ((k : Int) + 1) (by omega); rw [this]; rfl
      refine region_named (fun Ac hA => ?_)
      refine wpIn_region_upto (I := fun listed ac wx => ∃ (y12_ y13_ y14_ y15_ y16_ y17_ y18_ y19_ y20_ y21_ : Value), ac = ((((((((((Ac.put (some 12) y12_).put (some 13) y13_).put (some 14) y14_).put (some 15) y15_).put (some 16) y16_).put (some 17) y17_).put (some 18) y18_).put (some 19) y19_).put (some 20) y20_).put (some 21) y21_) ∧ wx = W1 ∧ (listed.getD 0 false = true → y12_ = .func (.yield l) #[] #[]) ∧ (listed.getD 1 false = true → y13_ = .agg #[.bool a.s0, .slice a.A0 a.n0 a.c0, .slice a.D0 a.m0 a.e0, .bool a.s1, .slice a.A1 a.n1 a.c1, .slice a.D1 a.m1 a.e1]) ∧ (listed.getD 2 false = true → y14_ = .slice (some ⟨g, o, none⟩) zs.length cap) ∧ (listed.getD 3 false = true → y15_ = .int .i64 (k : Int)) ∧ (listed.getD 4 false = true → y16_ = .int .i64 ((k + 1 : Nat) : Int)) ∧ (listed.getD 5 false = true → y17_ = .slice (some ⟨g, o, none⟩) zs.length cap) ∧ (listed.getD 6 false = true → y18_ = .int .i64 (zs.length : Int)) ∧ (listed.getD 7 false = true → y19_ = .int .i64 (j : Int)) ∧ (listed.getD 8 false = true → y20_ = .pointer (some ⟨g, o + j * 6, none⟩)) ∧ (listed.getD 9 false = true → y21_ = .agg #[.bool b.s0, .slice b.A0 b.n0 b.c0, .slice b.D0 b.m0 b.e0, .bool b.s1, .slice b.A1 b.n1 b.c1, .slice b.D1 b.m1 b.e1])) (m := 10) (k := 2) (by kernel_rfl) (by kernel_rfl) (by kernel_rfl) (by kernel_rfl) ⟨Ac.tmps.getD 12 undef, Ac.tmps.getD 13 undef, Ac.tmps.getD 14 undef, Ac.tmps.getD 15 undef, Ac.tmps.getD 16 undef, Ac.tmps.getD 17 undef, Ac.tmps.getD 18 undef, Ac.tmps.getD 19 undef, Ac.tmps.getD 20 undef, Ac.tmps.getD 21 undef, by subst hA; kernel_rfl, hW1, fun h => (by cases h), fun h => (by cases h), fun h => (by cases h), fun h => (by cases h), fun h => (by cases h), fun h => (by cases h), fun h => (by cases h), fun h => (by cases h), fun h => (by cases h), fun h => (by cases h)⟩ ?_ ?_
      · refine (StepsIn.cons (i := 0) (o := _) rfl ?_ (StepsIn.cons (i := 1) (o := _) rfl ?_ (StepsIn.cons (i := 2) (o := _) rfl ?_ (StepsIn.cons (i := 3) (o := _) rfl ?_ (StepsIn.cons (i := 4) (o := _) rfl ?_ (StepsIn.cons (i := 5) (o := _) rfl ?_ (StepsIn.cons (i := 6) (o := _) rfl ?_ (StepsIn.cons (i := 7) (o := _) rfl ?_ (StepsIn.cons (i := 8) (o := _) rfl ?_ (StepsIn.cons (i := 9) (o := _) rfl ?_ StepsIn.nil))))))))))
        · rintro listed ac wx hC ⟨y12_, y13_, y14_, y15_, y16_, y17_, y18_, y19_, y20_, y21_, rfl, rfl, H0_, H1_, H2_, H3_, H4_, H5_, H6_, H7_, H8_, H9_⟩ hi K hK
          subst hA
          (try simp only [Act.put, List.setIfInBounds_toArray, List.set_cons_zero, List.set_cons_succ])
          go_simp
          refine hK.out _ _ ?_
          clear hK K
          exact ⟨.func (.yield l) #[] #[], y13_, y14_, y15_, y16_, y17_, y18_, y19_, y20_, y21_, by kernel_rfl, rfl, fun _ => rfl, fun h => H1_ (dep_set (by decide) h), fun h => H2_ (dep_set (by decide) h), fun h => H3_ (dep_set (by decide) h), fun h => H4_ (dep_set (by decide) h), fun h => H5_ (dep_set (by decide) h), fun h => H6_ (dep_set (by decide) h), fun h => H7_ (dep_set (by decide) h), fun h => H8_ (dep_set (by decide) h), fun h => H9_ (dep_set (by decide) h)⟩
        · rintro listed ac wx hC ⟨y12_, y13_, y14_, y15_, y16_, y17_, y18_, y19_, y20_, y21_, rfl, rfl, H0_, H1_, H2_, H3_, H4_, H5_, H6_, H7_, H8_, H9_⟩ hi K hK
          subst hA
          (try simp only [Act.put, List.setIfInBounds_toArray, List.set_cons_zero, List.set_cons_succ])
          go_simp
          refine hK.out _ _ ?_
          clear hK K
          exact ⟨y12_, .agg #[.bool a.s0, .slice a.A0 a.n0 a.c0, .slice a.D0 a.m0 a.e0, .bool a.s1, .slice a.A1 a.n1 a.c1, .slice a.D1 a.m1 a.e1], y14_, y15_, y16_, y17_, y18_, y19_, y20_, y21_, by kernel_rfl, rfl, fun h => H0_ (dep_set (by decide) h), fun _ => rfl, fun h => H2_ (dep_set (by decide) h), fun h => H3_ (dep_set (by decide) h), fun h => H4_ (dep_set (by decide) h), fun h => H5_ (dep_set (by decide) h), fun h => H6_ (dep_set (by decide) h), fun h => H7_ (dep_set (by decide) h), fun h => H8_ (dep_set (by decide) h), fun h => H9_ (dep_set (by decide) h)⟩
        · rintro listed ac wx hC ⟨y12_, y13_, y14_, y15_, y16_, y17_, y18_, y19_, y20_, y21_, rfl, rfl, H0_, H1_, H2_, H3_, H4_, H5_, H6_, H7_, H8_, H9_⟩ hi K hK
          subst hA
          (try simp only [Act.put, List.setIfInBounds_toArray, List.set_cons_zero, List.set_cons_succ])
          go_simp
          refine hK.out _ _ ?_
          clear hK K
          exact ⟨y12_, y13_, .slice (some ⟨g, o, none⟩) zs.length cap, y15_, y16_, y17_, y18_, y19_, y20_, y21_, by kernel_rfl, rfl, fun h => H0_ (dep_set (by decide) h), fun h => H1_ (dep_set (by decide) h), fun _ => rfl, fun h => H3_ (dep_set (by decide) h), fun h => H4_ (dep_set (by decide) h), fun h => H5_ (dep_set (by decide) h), fun h => H6_ (dep_set (by decide) h), fun h => H7_ (dep_set (by decide) h), fun h => H8_ (dep_set (by decide) h), fun h => H9_ (dep_set (by decide) h)⟩
        · rintro listed ac wx hC ⟨y12_, y13_, y14_, y15_, y16_, y17_, y18_, y19_, y20_, y21_, rfl, rfl, H0_, H1_, H2_, H3_, H4_, H5_, H6_, H7_, H8_, H9_⟩ hi K hK
          subst hA
          (try simp only [Act.put, List.setIfInBounds_toArray, List.set_cons_zero, List.set_cons_succ])
          go_simp
          refine hK.out _ _ ?_
          clear hK K
          exact ⟨y12_, y13_, y14_, .int .i64 (k : Int), y16_, y17_, y18_, y19_, y20_, y21_, by kernel_rfl, rfl, fun h => H0_ (dep_set (by decide) h), fun h => H1_ (dep_set (by decide) h), fun h => H2_ (dep_set (by decide) h), fun _ => rfl, fun h => H4_ (dep_set (by decide) h), fun h => H5_ (dep_set (by decide) h), fun h => H6_ (dep_set (by decide) h), fun h => H7_ (dep_set (by decide) h), fun h => H8_ (dep_set (by decide) h), fun h => H9_ (dep_set (by decide) h)⟩
        · rintro listed ac wx hC ⟨y12_, y13_, y14_, y15_, y16_, y17_, y18_, y19_, y20_, y21_, rfl, rfl, H0_, H1_, H2_, H3_, H4_, H5_, H6_, H7_, H8_, H9_⟩ hi K hK
          obtain rfl := H3_ (dep_of hi rfl 3 (by kernel_rfl))
          subst hA
          (try simp only [Act.put, List.setIfInBounds_toArray, List.set_cons_zero, List.set_cons_succ])
          go_simp
          refine hK.out _ _ ?_
          clear hK K
          exact ⟨y12_, y13_, y14_, .int .i64 (k : Int), .int .i64 ((k + 1 : Nat) : Int), y17_, y18_, y19_, y20_, y21_, by kernel_rfl, rfl, fun h => H0_ (dep_set (by decide) h), fun h => H1_ (dep_set (by decide) h), fun h => H2_ (dep_set (by decide) h), fun _ => rfl, fun _ => rfl, fun h => H5_ (dep_set (by decide) h), fun h => H6_ (dep_set (by decide) h), fun h => H7_ (dep_set (by decide) h), fun h => H8_ (dep_set (by decide) h), fun h => H9_ (dep_set (by decide) h)⟩
        · rintro listed ac wx hC ⟨y12_, y13_, y14_, y15_, y16_, y17_, y18_, y19_, y20_, y21_, rfl, rfl, H0_, H1_, H2_, H3_, H4_, H5_, H6_, H7_, H8_, H9_⟩ hi K hK
          subst hA
          (try simp only [Act.put, List.setIfInBounds_toArray, List.set_cons_zero, List.set_cons_succ])
          go_simp
          refine hK.out _ _ ?_
          clear hK K
          exact ⟨y12_, y13_, y14_, y15_, y16_, .slice (some ⟨g, o, none⟩) zs.length cap, y18_, y19_, y20_, y21_, by kernel_rfl, rfl, fun h => H0_ (dep_set (by decide) h), fun h => H1_ (dep_set (by decide) h), fun h => H2_ (dep_set (by decide) h), fun h => H3_ (dep_set (by decide) h), fun h => H4_ (dep_set (by decide) h), fun _ => rfl, fun h => H6_ (dep_set (by decide) h), fun h => H7_ (dep_set (by decide) h), fun h => H8_ (dep_set (by decide) h), fun h => H9_ (dep_set (by decide) h)⟩
        · rintro listed ac wx hC ⟨y12_, y13_, y14_, y15_, y16_, y17_, y18_, y19_, y20_, y21_, rfl, rfl, H0_, H1_, H2_, H3_, H4_, H5_, H6_, H7_, H8_, H9_⟩ hi K hK
          obtain rfl := H5_ (dep_of hi rfl 5 (by kernel_rfl))
          subst hA
          (try simp only [Act.put, List.setIfInBounds_toArray, List.set_cons_zero, List.set_cons_succ])
          go_simp
          refine hK.out _ _ ?_
          clear hK K
          exact ⟨y12_, y13_, y14_, y15_, y16_, .slice (some ⟨g, o, none⟩) zs.length cap, .int .i64 (zs.length : Int), y19_, y20_, y21_, by kernel_rfl, rfl, fun h => H0_ (dep_set (by decide) h), fun h => H1_ (dep_set (by decide) h), fun h => H2_ (dep_set (by decide) h), fun h => H3_ (dep_set (by decide) h), fun h => H4_ (dep_set (by decide) h), fun _ => rfl, fun _ => rfl, fun h => H7_ (dep_set (by decide) h), fun h => H8_ (dep_set (by decide) h), fun h => H9_ (dep_set (by decide) h)⟩
        · rintro listed ac wx hC ⟨y12_, y13_, y14_, y15_, y16_, y17_, y18_, y19_, y20_, y21_, rfl, rfl, H0_, H1_, H2_, H3_, H4_, H5_, H6_, H7_, H8_, H9_⟩ hi K hK
          obtain rfl := H4_ (dep_of hi rfl 4 (by kernel_rfl))
          obtain rfl := H6_ (dep_of hi rfl 6 (by kernel_rfl))
          subst hA
          (try simp only [Act.put, List.setIfInBounds_toArray, List.set_cons_zero, List.set_cons_succ])
          go_simp
          refine hK.out _ _ ?_
          clear hK K
          exact ⟨y12_, y13_, y14_, y15_, .int .i64 ((k + 1 : Nat) : Int), y17_, .int .i64 (zs.length : Int), .int .i64 (j : Int), y20_, y21_, by kernel_rfl, rfl, fun h => H0_ (dep_set (by decide) h), fun h => H1_ (dep_set (by decide) h), fun h => H2_ (dep_set (by decide) h), fun h => H3_ (dep_set (by decide) h), fun _ => rfl, fun h => H5_ (dep_set (by decide) h), fun _ => rfl, fun _ => rfl, fun h => H8_ (dep_set (by decide) h), fun h => H9_ (dep_set (by decide) h)⟩
        · rintro listed ac wx hC ⟨y12_, y13_, y14_, y15_, y16_, y17_, y18_, y19_, y20_, y21_, rfl, rfl, H0_, H1_, H2_, H3_, H4_, H5_, H6_, H7_, H8_, H9_⟩ hi K hK
          obtain rfl := H2_ (dep_of hi rfl 2 (by kernel_rfl))
          obtain rfl := H7_ (dep_of hi rfl 7 (by kernel_rfl))
          subst hA
          (try simp only [Act.put, List.setIfInBounds_toArray, List.set_cons_zero, List.set_cons_succ])
          go_simp
          refine hK.out _ _ ?_
          clear hK K
          exact ⟨y12_, y13_, .slice (some ⟨g, o, none⟩) zs.length cap, y15_, y16_, y17_, y18_, .int .i64 (j : Int), .pointer (some ⟨g, o + j * 6, none⟩), y21_, by kernel_rfl, rfl, fun h => H0_ (dep_set (by decide) h), fun h => H1_ (dep_set (by decide) h), fun _ => rfl, fun h => H3_ (dep_set (by decide) h), fun h => H4_ (dep_set (by decide) h), fun h => H5_ (dep_set (by decide) h), fun h => H6_ (dep_set (by decide) h), fun _ => rfl, fun _ => rfl, fun h => H9_ (dep_set (by decide) h)⟩
        · rintro listed ac wx hC ⟨y12_, y13_, y14_, y15_, y16_, y17_, y18_, y19_, y20_, y21_, rfl, rfl, H0_, H1_, H2_, H3_, H4_, H5_, H6_, H7_, H8_, H9_⟩ hi K hK
          obtain rfl := H8_ (dep_of hi rfl 8 (by kernel_rfl))
          subst hA
          (try simp only [Act.put, List.setIfInBounds_toArray, List.set_cons_zero, List.set_cons_succ])
          go_simp
          refine hK.out _ _ ?_
          clear hK K
          exact ⟨y12_, y13_, y14_, y15_, y16_, y17_, y18_, y19_, .pointer (some ⟨g, o + j * 6, none⟩), .agg #[.bool b.s0, .slice b.A0 b.n0 b.c0, .slice b.D0 b.m0 b.e0, .bool b.s1, .slice b.A1 b.n1 b.c1, .slice b.D1 b.m1 b.e1], by kernel_rfl, rfl, fun h => H0_ (dep_set (by decide) h), fun h => H1_ (dep_set (by decide) h), fun h => H2_ (dep_set (by decide) h), fun h => H3_ (dep_set (by decide) h), fun h => H4_ (dep_set (by decide) h), fun h => H5_ (dep_set (by decide) h), fun h => H6_ (dep_set (by decide) h), fun h => H7_ (dep_set (by decide) h), fun _ => rfl, fun _ => rfl⟩
      rintro ac wx ⟨y12_, y13_, y14_, y15_, y16_, y17_, y18_, y19_, y20_, y21_, rfl, rfl, H0_, H1_, H2_, H3_, H4_, H5_, H6_, H7_, H8_, H9_⟩
      obtain rfl := H0_ rfl
      obtain rfl := H1_ rfl
      obtain rfl := H2_ rfl
      obtain rfl := H3_ rfl
      obtain rfl := H4_ rfl
      obtain rfl := H5_ rfl
      obtain rfl := H6_ rfl
      obtain rfl := H7_ rfl
      obtain rfl := H8_ rfl
      obtain rfl := H9_ rfl
      subst hA
      (try simp only [Act.put, List.setIfInBounds_toArray, List.set_cons_zero, List.set_cons_succ])
      clear x0 x1 x2 x3 x4 x5 f0 f1 f2 f3 f4 f5 cB b4
      refine wpAnyIn_ready (rs := [10]) (by kernel_rfl) (by simp) (AllReadyIn.cons (o := _) rfl (fun K hK => ?_) AllReadyIn.nil)
      go_simp
      refine hR.mono ?_
      rintro e W3 (⟨rfl, hJ3, hk3⟩ | ⟨rfl, hJx3⟩)
      · refine hK _ _ ?_
        clear hK K
        (try simp only [Act.put, List.setIfInBounds_toArray, List.set_cons_zero, List.set_cons_succ])
        refine wpAnyIn_ready (rs := [11]) (by kernel_rfl) (by simp) (AllReadyIn.cons (o := _) rfl (fun K hK => ?_) AllReadyIn.nil)
        go_simp
        refine hK _ _ ?_
        clear hK K
        refine wpAnyIn_done (by kernel_rfl) ?_ _
        gi_wp2
        go_roundw
        case rel => exact ⟨k + 1, ys ++ [⟨(a, b), k, hlt, he.symm⟩], by omega, by go_num, by rw [List.length_append, hyl]; rfl, snoc_edge hys he.symm, hJ3, hn1.trans hk3, by have := hk3.size; omega⟩
        case measure => simp [intOf]; omega
      · refine hK _ _ ?_
        clear hK K
        (try simp only [Act.put, List.setIfInBounds_toArray, List.set_cons_zero, List.set_cons_succ])
        refine wpAnyIn_ready (rs := [11]) (by kernel_rfl) (by simp) (AllReadyIn.cons (o := _) rfl (fun K hK => ?_) AllReadyIn.nil)
        go_simp
        refine hK _ _ ?_
        clear hK K
        refine wpAnyIn_done (by kernel_rfl) ?_ _
        gi_wp2
        refine bodyPost_ret (results_none rfl _ _ _) rfl ?_
        exact ⟨⟨_, rfl⟩, .inr ⟨_, hJx3⟩⟩
    · obtain rfl : k = zs.length := by omega
      gi_wp2
      go_end0
      exact ⟨⟨_, rfl⟩, .inl ⟨_, hys, hJs⟩⟩
theorem edges_stops (n : Nat) (hn : 1 ≤ n) (Bs : Nat) {A : Option Addr} {n0 cap : Nat} (zs : List PP) (hlen : zs.length ≤ 90000) (W0 : World)
    (hBs : W0.cell? ⟨Bs, 0, none⟩ = some (.slice A n0 cap)) (hS : ReadR W0 6 (.slice A n0 cap) (rowsP zs)) :
    SeqStopsK Fence.wide n Tryz.prog 99 #[.pointer (some ⟨Bs, 0, none⟩)] (encE zs) (Below W0.heap.size) (fun ys => List.map (fun x : EdgeT zs => x.1) ys = upto (edgeP zs) zs.length) (fun _ => True) zs.length W0 := fun l J Jx W hW hJ _ hY hj =>
  edges1_in (w := W0) n hn l Bs zs hlen J Jx W hJ hY hW hBs hS hj
theorem edges_v (A : Option Addr) (n c : Nat) (w : World) :
    Calls Tryz.prog 70 #[.slice A n c] w fun e w' => e = .returned (.func (.func 99) #[] #[.pointer (some ⟨w.heap.size, 0, none⟩)]) ∧ w' = w.alloc (.cells #[.slice A n c] 30) := by
  go_enter Tryz.func70, Tryz.ntmps70
  go_wp2_with fail
  go_ret
  exact ⟨rfl, rfl⟩
/-- Whether an edge joins a point with itself. -/
def stopsB (zs : List PP) : Bool := (upto (edgeP zs) zs.length).any fun x => decide (x.1.pt = x.2.pt)
set_option maxRecDepth 100000 in
set_option maxHeartbeats 4000000 in
theorem stops_v {A : Option Addr} {n c : Nat} {zs : List PP} (hS : ReadR w 6 (.slice A n c) (rowsP zs)) (hF : FN w L zs) (hlen : zs.length ≤ 90000) (hL : L ≤ 100000) :
    Calls Tryz.prog 45 #[.slice A n c] w fun e w' => e = .returned (.bool (stopsB zs)) ∧ Below w.heap.size w w' := by
  refine (callsIn_wide (n := 3)).1 ?_
  refine callsIn_of_wp_marks Tryz.func45 rfl trivial ?_ rfl
  simp only [Tryz.ntmps45, List.size_toArray, List.length_cons, List.length_nil, Nat.reduceAdd, Nat.reduceSub, Array.replicate_succ, Array.replicate_zero, List.push_toArray, List.append_toArray, List.nil_append, List.cons_append]
  gi_wp2_with (refine ⟨trivial, ?_⟩; gi_at_call 70; refine (callsIn_wide.2 (edges_v A n c _)).mono ?_; rintro e w' ⟨rfl, rfl⟩)
  obtain ⟨W0, hW0, bR, bS, hb0, hsz⟩ := boxes2 w #[.bool false] #[.slice A n c] 4 30
  rw [hW0]
  clear hW0
  have cq := bS.cell 0 _ rfl
  have hS0 := hS.below hb0
  have hF0 := hF.below hb0
  have hw0 : w.heap.size ≤ W0.heap.size := by omega
  clear hS hF bS
  have HM : ∀ x : EdgeT zs, x.1 ∈ upto (edgeP zs) zs.length := fun x => by
    obtain ⟨x, i, hi, rfl⟩ := x
    exact List.mem_map.2 ⟨i, List.mem_range.2 hi, rfl⟩
  refine wpIn_rangeFunc_ownH rfl (by decide) (gf := 99) (lb := #[.pointer (some ⟨w.heap.size + 1, 0, none⟩)]) rfl trivial (enters_of Tryz.func99 (by kernel_rfl) rfl)
    (edges_stops 2 (by decide) (w.heap.size + 1) zs hlen W0 cq hS0) belowK_t (belowK_b (Nat.le_refl _)) (Below.refl _ _) (fun _ => rfl)
    (fun pre W => (Box W w.heap.size #[.bool false] 4 ∧ ∀ y ∈ pre, ¬ y.1.1.pt = y.1.2.pt) ∧ Below W0.heap.size W0 W)
    (fun c pre W => c = .ret ∧ stopsB zs = true ∧ Box W w.heap.size #[.bool true] 4 ∧ Below w.heap.size w W)
    (OwnFrom.and (fun pre X Y row hs hg hr => ⟨hs.1.notRow hg (fun r e => (hr r e).2), hs.2⟩) (ownFrom_below (Nat.le_refl _) (Nat.le_refl _)))
    (fun c pre X Y row hs hg hr => ⟨hs.1, hs.2.1, hs.2.2.1.notRow hg (fun r e => (hr r e).2), ownFrom_below (β := Unit) (B := W0.heap.size) (Nat.le_refl _) hw0 () X Y row hs.2.2.2 hg hr⟩)
    ⟨⟨bR, fun _ h => (by cases h)⟩, Below.refl _ _⟩
    (fun x a' W => ∃ Bx, W0.heap.size ≤ Bx ∧ Box W Bx #[.bool x.1.1.s0, .slice x.1.1.A0 x.1.1.n0 x.1.1.c0, .slice x.1.1.D0 x.1.1.m0 x.1.1.e0, .bool x.1.1.s1, .slice x.1.1.A1 x.1.1.n1 x.1.1.c1, .slice x.1.1.D1 x.1.1.m1 x.1.1.e1] 65 ∧ Box W (Bx + 1) #[.bool x.1.2.s0, .slice x.1.2.A0 x.1.2.n0 x.1.2.c0, .slice x.1.2.D0 x.1.2.m0 x.1.2.e0, .bool x.1.2.s1, .slice x.1.2.A1 x.1.2.n1 x.1.2.c1, .slice x.1.2.D1 x.1.2.m1 x.1.2.e1] 65 ∧ a' = { tmps := #[.slice A n c, undef, .pointer (some ⟨w.heap.size, 0, none⟩), .pointer (some ⟨Bx, 0, none⟩), .pointer (some ⟨Bx + 1, 0, none⟩), .slice A n c, .func (.func 99) #[] #[.pointer (some ⟨w.heap.size + 1, 0, none⟩)], .agg #[.bool x.1.1.s0, .slice x.1.1.A0 x.1.1.n0 x.1.1.c0, .slice x.1.1.D0 x.1.1.m0 x.1.1.e0, .bool x.1.1.s1, .slice x.1.1.A1 x.1.1.n1 x.1.1.c1, .slice x.1.1.D1 x.1.1.m1 x.1.1.e1], .agg #[.bool x.1.2.s0, .slice x.1.2.A0 x.1.2.n0 x.1.2.c0, .slice x.1.2.D0 x.1.2.m0 x.1.2.e0, .bool x.1.2.s1, .slice x.1.2.A1 x.1.2.n1 x.1.2.c1, .slice x.1.2.D1 x.1.2.m1 x.1.2.e1], undef, undef, undef], defers := [] })
    (fun x a' _ X Y row hs hg hr => by
      obtain ⟨Bx, k0, k1, k2, k3⟩ := hs
      exact ⟨Bx, k0, k1.notRow hg (fun r e => (hr r e).2), k2.notRow hg (fun r e => (hr r e).2), k3⟩)
    ?assign ?body ?done ?stop
  case assign =>
    rintro l pre x W K ⟨⟨k1, k2⟩, k3⟩ hK
    obtain ⟨W5, hW5, b5, b6, hb5, hs5⟩ := boxes2 W #[.bool x.1.1.s0, .slice x.1.1.A0 x.1.1.n0 x.1.1.c0, .slice x.1.1.D0 x.1.1.m0 x.1.1.e0, .bool x.1.1.s1, .slice x.1.1.A1 x.1.1.n1 x.1.1.c1, .slice x.1.1.D1 x.1.1.m1 x.1.1.e1] #[.bool x.1.2.s0, .slice x.1.2.A0 x.1.2.n0 x.1.2.c0, .slice x.1.2.D0 x.1.2.m0 x.1.2.e0, .bool x.1.2.s1, .slice x.1.2.A1 x.1.2.n1 x.1.2.c1, .slice x.1.2.D1 x.1.2.m1 x.1.2.e1] 65 65
    have hk5 : KeepsOthers W W5 := by rw [← hW5]; exact (KeepsOthers.alloc _ _).trans (KeepsOthers.alloc _ _)
    dsimp only [encE]
    gi_wp2
    exact hK _ _ (hk5.from _) (hb5.mono k3.size) ⟨⟨k1.below hb5, k2⟩, k3.trans (hb5.mono k3.size)⟩ ⟨W.heap.size, k3.size, b5, b6, rfl⟩
  case body =>
    rintro l pre x a' W hl ⟨r, hr⟩ ⟨⟨k1, k2⟩, k3⟩ ⟨Bx, hBx, b5, b6, rfl⟩ hlt
    have hFW := hF0.below k3
    have hx := edge_mem x
    have hp := hFW _ hx.1
    have hq := hFW _ hx.2
    clear hFW
    have x0 := b5.cell 0 _ rfl
    have y0 := b6.cell 0 _ rfl
    have x1 := b5.cell 1 _ rfl
    have y1 := b6.cell 1 _ rfl
    have x2 := b5.cell 2 _ rfl
    have y2 := b6.cell 2 _ rfl
    have x3 := b5.cell 3 _ rfl
    have y3 := b6.cell 3 _ rfl
    have x4 := b5.cell 4 _ rfl
    have y4 := b6.cell 4 _ rfl
    have x5 := b5.cell 5 _ rfl
    have y5 := b6.cell 5 _ rfl
    by_cases hpt : x.1.1.pt = x.1.2.pt
    · have hd : decide (x.1.1.pt = x.1.2.pt) = true := decide_eq_true hpt
      have hst : stopsB zs = true := List.any_eq_true.2 ⟨x.1, HM x, hd⟩
      gi_wp2_with (refine ⟨trivial, ?_⟩; gi_at_call 71; refine (CallsIn.inRound l (callsIn_wide.2 (same_pp hp hq hL))).mono ?_; rintro e W3 ⟨rfl, hb⟩; have k1 := k1.below hb; have cR := k1.cell 0 _ rfl; have fR := k1.frozen 0)
      exact ⟨((keepsB hb).trans (KeepsOthers.setCell _ _ _)).from _, rfl, hst, k1.stored1 _, ((hb0.trans (k3.mono hw0)).trans (hb.mono (Nat.le_trans hw0 k3.size))).setCell (p := ⟨w.heap.size, 0, none⟩) (Nat.le_refl _) _⟩
    · have hd : decide (x.1.1.pt = x.1.2.pt) = false := decide_eq_false hpt
      gi_wp2_with (refine ⟨trivial, ?_⟩; gi_at_call 71; refine (CallsIn.inRound l (callsIn_wide.2 (same_pp hp hq hL))).mono ?_; rintro e W3 ⟨rfl, hb⟩; have k1 := k1.below hb; have cR := k1.cell 0 _ rfl; have fR := k1.frozen 0)
      exact ⟨(keepsB hb).from _, hb.mono k3.size, ⟨k1, fun y hy => (List.mem_append.1 hy).elim (k2 y) (fun h => by rw [List.mem_singleton.1 h]; exact hpt)⟩, k3.trans (hb.mono k3.size)⟩
  case done =>
    rintro D ys W hD hys ⟨⟨k1, k2⟩, k3⟩ hK
    have hst : stopsB zs = false := by
      unfold stopsB
      rw [← hys, List.any_eq_false]
      intro y hy
      obtain ⟨z, hz, rfl⟩ := List.mem_map.1 hy
      simpa using k2 z hz
    have cR := k1.cell 0 _ rfl
    have fR := k1.frozen 0
    gi_wp2
    have hK' := (KeepsOthers.setCell W ⟨w.heap.size, 0, none⟩ (.bool false)).same D _ hK rfl
    refine ⟨by simp, .inl ⟨_, _, rfl, run_takeDeferred hK', ?_⟩⟩
    have hc5 := ((k1.stored1 (.bool false)).notRow (grownBy_putObj' _ D (.deferred none)) (fun r e => by cases e; exact ⟨_, hK', rfl⟩)).cell 0 _ rfl
    have hB9 := ((hb0.trans (k3.mono hw0)).setCell (p := ⟨w.heap.size, 0, none⟩) (Nat.le_refl _) (.bool false)).trans (belowK_b (w := w) (Nat.le_refl _) _ D _ (.deferred none) (by omega) hK' rfl rfl)
    exact ⟨.bool false, by simp [results, Tryz.f45, go_sem, hc5], by rw [hst], hB9⟩
  case stop =>
    rintro D c pre W hD _ ⟨rfl, hst, k1, k2⟩ hK
    gi_wp2
    refine ⟨by simp, .inl ⟨_, _, rfl, run_takeDeferred hK, ?_⟩⟩
    have hc5 := (k1.notRow (grownBy_putObj' _ D (.deferred none)) (fun r e => by cases e; exact ⟨_, hK, rfl⟩)).cell 0 _ rfl
    have hB9 := k2.trans (belowK_b (w := w) (Nat.le_refl _) _ D _ (.deferred none) (by omega) hK rfl rfl)
    exact ⟨.bool true, by simp [results, Tryz.f45, go_sem, hc5], by rw [hst], hB9⟩
end
end Go.Proofs.YthmmnmajkeoaaabGreatDoor
