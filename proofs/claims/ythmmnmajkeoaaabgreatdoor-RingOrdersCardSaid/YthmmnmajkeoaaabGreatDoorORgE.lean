/-
  What corners visits; whether a ring opens.
-/
import Derived.Test.YthmmnmajkeoaaabGreatDoorORgD
import Derived.RangeFuncNested
import Derived.RangeFuncBound
import Derived.RangeFuncCalls
import Derived.RangeFuncLeaves
import Derived.RangeFuncBox
import Derived.Shelf.Abstract
import Derived.Shelf.RegionOpen
import Derived.WalkKit
import Derived.OwnWalkIn
import Derived.TacticsInMore
import Derived.LoopNIn
import Derived.LoopIn
import Derived.IntWalk
namespace Go.Proofs.YthmmnmajkeoaaabGreatDoor
open Go.RowKit Go.Shelf
attribute [local go_sem] Oper.semAt_some
section
variable {w : World} {L : Nat}
/-- A corner of the ring. -/
def CornT (zs : List PP) := {x : PP × PP × PP // ∃ i, i < zs.length ∧ x = cornP zs i}
def encC (zs : List PP) (x : CornT zs) : Array Value := #[.agg #[.bool x.1.1.s0, .slice x.1.1.A0 x.1.1.n0 x.1.1.c0, .slice x.1.1.D0 x.1.1.m0 x.1.1.e0, .bool x.1.1.s1, .slice x.1.1.A1 x.1.1.n1 x.1.1.c1, .slice x.1.1.D1 x.1.1.m1 x.1.1.e1, .bool x.1.2.1.s0, .slice x.1.2.1.A0 x.1.2.1.n0 x.1.2.1.c0, .slice x.1.2.1.D0 x.1.2.1.m0 x.1.2.1.e0, .bool x.1.2.1.s1, .slice x.1.2.1.A1 x.1.2.1.n1 x.1.2.1.c1, .slice x.1.2.1.D1 x.1.2.1.m1 x.1.2.1.e1, .bool x.1.2.2.s0, .slice x.1.2.2.A0 x.1.2.2.n0 x.1.2.2.c0, .slice x.1.2.2.D0 x.1.2.2.m0 x.1.2.2.e0, .bool x.1.2.2.s1, .slice x.1.2.2.A1 x.1.2.2.n1 x.1.2.2.c1, .slice x.1.2.2.D1 x.1.2.2.m1 x.1.2.2.e1]]
theorem snoc_corn {zs : List PP} {ys : List (CornT zs)} {k : Nat} {x : CornT zs} (h : List.map (fun x : CornT zs => x.1) ys = upto (cornP zs) k) (hx : x.1 = cornP zs k) : List.map (fun x : CornT zs => x.1) (ys ++ [x]) = upto (cornP zs) (k + 1) := by
  rw [List.map_append, h, upto_succ]
  show _ ++ [x.1] = _
  rw [hx]
theorem corn_mem {zs : List PP} (x : CornT zs) : x.1.1 ∈ zs ∧ x.1.2.2 ∈ zs := by
  obtain ⟨x, i, hi, rfl⟩ := x
  exact ⟨get_mem (Nat.mod_lt _ (by omega)), get_mem (Nat.mod_lt _ (by omega))⟩
set_option maxRecDepth 100000 in
set_option maxHeartbeats 4000000 in
theorem corn1_in (n : Nat) (hn : 1 ≤ n) (l Bs : Nat) {A : Option Addr} {n0 cap : Nat} (zs : List PP) (hlen : zs.length ≤ 90000) (J Jx : List (CornT zs) → World → Prop) (W : World) (hJ : AbidesFrom W.heap.size J)
    (hY : ∀ pre x W1, J pre W1 → pre.length < zs.length → YieldAt Fence.wide (n - 1) Tryz.prog l (encC zs x) W1 fun e W' =>
      (e = .returned (.bool true) ∧ J (pre ++ [x]) W' ∧ Below w.heap.size W1 W') ∨ (e = .returned (.bool false) ∧ Jx (pre ++ [x]) W'))
    (hW : Below w.heap.size w W) (hBs : w.cell? ⟨Bs, 0, none⟩ = some (.slice A n0 cap)) (hS : ReadR w 6 (.slice A n0 cap) (rowsP zs)) (h0 : J [] W) :
    CallsIn Fence.wide n Tryz.prog 100 #[.func (.yield l) #[] #[], .pointer (some ⟨Bs, 0, none⟩)] W fun e W' => (∃ v, e = .returned v) ∧ ((∃ ys, List.map (fun x : CornT zs => x.1) ys = upto (cornP zs) zs.length ∧ J ys W') ∨ (∃ pre, True ∧ Jx pre W')) := by
  obtain rfl := pp_len hS
  refine callsIn_of_wp Tryz.func100 rfl trivial ?_ rfl
  simp only [Tryz.ntmps100, List.size_toArray, List.length_cons, List.length_nil, Nat.reduceAdd, Nat.reduceSub, Array.replicate_succ, Array.replicate_zero, List.push_toArray, List.append_toArray, List.nil_append, List.cons_append]
  have cB := (hW.cell (World.block_lt_of_cell? w _ hBs)).trans hBs
  gi_wp2
  clear cB
  gi_loopw [9] (fun i wr => ∃ (k : Nat) (ys : List (CornT zs)), k ≤ zs.length ∧ i = .int .i64 k ∧ ys.length = k ∧ List.map (fun x : CornT zs => x.1) ys = upto (cornP zs) k ∧ J ys wr ∧ Below w.heap.size w wr ∧ W.heap.size ≤ wr.heap.size) (fun i _ => zs.length - (intOf i).toNat)
  case atStart => exact ⟨0, [], Nat.zero_le _, rfl, rfl, rfl, h0, hW, Nat.le_refl _⟩
  case round =>
    clear hW h0
    obtain ⟨k, ys, hk, rfl, hyl, hys, hJs, hnx, hsz⟩ := hrel
    by_cases hlt : k < zs.length
    · obtain ⟨a, ha⟩ : ∃ a, zs.getD k default = a := ⟨_, rfl⟩
      obtain ⟨j, hj⟩ : ∃ j, (k + 1) % zs.length = j := ⟨_, rfl⟩
      obtain ⟨jb, hjb⟩ : ∃ j, (k + zs.length - 1) % zs.length = j := ⟨_, rfl⟩
      obtain ⟨b, hb⟩ : ∃ b, zs.getD j default = b := ⟨_, rfl⟩
      obtain ⟨p, hp⟩ : ∃ p, zs.getD jb default = p := ⟨_, rfl⟩
      have hlt2 : j < zs.length := by rw [← hj]; exact Nat.mod_lt _ (by omega)
      have hlt3 : jb < zs.length := by rw [← hjb]; exact Nat.mod_lt _ (by omega)
      have hne0 : ¬ zs = [] := by rintro rfl; simp at hlt
      have hmod : ((k : Int) + 1).tmod (zs.length : Int) = (j : Int) := by rw [Int.tmod_eq_emod_of_nonneg (by omega), ← hj]; simp
      have hmodb : ((k : Int) + (zs.length : Int) - 1).tmod (zs.length : Int) = (jb : Int) := by rw [Int.tmod_eq_emod_of_nonneg (by omega), ← hjb, show (k : Int) + (zs.length : Int) - 1 = ((k + zs.length - 1 : Nat) : Int) by omega]; rfl
      have he : cornP zs k = (p, a, b) := by unfold cornP; rw [hj, hjb, ha, hb, hp]
      have hx1 : zs[k]? = some a := by rw [← ha]; exact get_ok hlt
      have hx2 : zs[j]? = some b := by rw [← hb]; exact get_ok hlt2
      have hx3 : zs[jb]? = some p := by rw [← hp]; exact get_ok hlt3
      obtain ⟨g, o, rfl, e0, e1, e2, e3, e4, e5⟩ := pp_elem hS hx1
      obtain ⟨g2, o2, hA2, f0, f1, f2, f3, f4, f5⟩ := pp_elem hS hx2
      obtain ⟨g3, o3, hA3, d0, d1, d2, d3, d4, d5⟩ := pp_elem hS hx3
      injection hA2 with hA2
      injection hA2 with hg1 hg2
      subst hg1 hg2
      injection hA3 with hA3
      injection hA3 with hg1 hg2
      subst hg1 hg2
      obtain ⟨W5, hW5, b4, hb5, hs5⟩ := boxes1 wr #[.bool a.s0, .slice a.A0 a.n0 a.c0, .slice a.D0 a.m0 a.e0, .bool a.s1, .slice a.A1 a.n1 a.c1, .slice a.D1 a.m1 a.e1] 65
      have hJ5 : J ys W5 := hJ _ wr W5 none hJs (by rw [← hW5]; exact World.grownBy_alloc wr _ none) (fun r e => by cases e)
      have hn5 : Below w.heap.size w W5 := hnx.trans (hb5.mono hnx.size)
      obtain ⟨W1, hW1⟩ : ∃ W1, W5.drew = W1 := ⟨_, rfl⟩
      have hd1 : Below W5.heap.size W5 W1 := hW1 ▸ drawn_below W5
      have hn1 : Below w.heap.size w W1 := hn5.trans (hd1.mono hn5.size)
      have hJ1 : J ys W1 := hJ _ W5 W1 none hJ5 (grown_below hd1) (fun r e => by cases e)
      have hs1 : W.heap.size ≤ W1.heap.size := by have := hd1.size; omega
      have e0 := (hnx.cell (World.block_lt_of_cell? w _ e0)).trans e0
      have e1 := (hnx.cell (World.block_lt_of_cell? w _ e1)).trans e1
      have e2 := (hnx.cell (World.block_lt_of_cell? w _ e2)).trans e2
      have e3 := (hnx.cell (World.block_lt_of_cell? w _ e3)).trans e3
      have e4 := (hnx.cell (World.block_lt_of_cell? w _ e4)).trans e4
      have e5 := (hnx.cell (World.block_lt_of_cell? w _ e5)).trans e5
      have f0 := (hn1.cell (World.block_lt_of_cell? w _ f0)).trans f0
      have f1 := (hn1.cell (World.block_lt_of_cell? w _ f1)).trans f1
      have f2 := (hn1.cell (World.block_lt_of_cell? w _ f2)).trans f2
      have f3 := (hn1.cell (World.block_lt_of_cell? w _ f3)).trans f3
      have f4 := (hn1.cell (World.block_lt_of_cell? w _ f4)).trans f4
      have f5 := (hn1.cell (World.block_lt_of_cell? w _ f5)).trans f5
      have d0 := (hn1.cell (World.block_lt_of_cell? w _ d0)).trans d0
      have d1 := (hn1.cell (World.block_lt_of_cell? w _ d1)).trans d1
      have d2 := (hn1.cell (World.block_lt_of_cell? w _ d2)).trans d2
      have d3 := (hn1.cell (World.block_lt_of_cell? w _ d3)).trans d3
      have d4 := (hn1.cell (World.block_lt_of_cell? w _ d4)).trans d4
      have d5 := (hn1.cell (World.block_lt_of_cell? w _ d5)).trans d5
      have cB := (hn1.cell (World.block_lt_of_cell? w _ hBs)).trans hBs
      replace b4 := b4.below hd1
      have lb4 := b4.lt
      clear hJs hS hJ5 ha hb hp hx1 hx2 hx3 hb5 hs5 hd1
      gi_wp2
      clear hW5 e0 e1 e2 e3 e4 e5
      have w1 : IntKind.i64.wrap ((k : Int) + 1) = ((k + 1 : Nat) : Int) := by have := IntWalk.i64_in ((k : Int) + 1) (by omega); rw [this]; rfl
      have w2 : IntKind.i64.wrap ((k : Int) + (zs.length : Int)) = (k : Int) + (zs.length : Int) := IntWalk.i64_in _ (by omega)
      have w3 : IntKind.i64.wrap ((k : Int) + (zs.length : Int) - 1) = (k : Int) + (zs.length : Int) - 1 := IntWalk.i64_in _ (by omega)
      refine region_named (fun Ac hA => ?_)
      refine wpIn_region_upto (I := fun listed ac wx => ∃ (y14_ y15_ y16_ y17_ y18_ y19_ y20_ y21_ y22_ y23_ y24_ y25_ y26_ y27_ y28_ y29_ y30_ y31_ y32_ y5_ y6_ : Value), ac = (((((((((((((((((((((Ac.put (some 14) y14_).put (some 15) y15_).put (some 16) y16_).put (some 17) y17_).put (some 18) y18_).put (some 19) y19_).put (some 20) y20_).put (some 21) y21_).put (some 22) y22_).put (some 23) y23_).put (some 24) y24_).put (some 25) y25_).put (some 26) y26_).put (some 27) y27_).put (some 28) y28_).put (some 29) y29_).put (some 30) y30_).put (some 31) y31_).put (some 32) y32_).put (some 5) y5_).put (some 6) y6_) ∧ Below W1.heap.size W1 wx ∧ (listed.getD 0 false = true → y14_ = .slice (some ⟨g, o, none⟩) zs.length cap) ∧ (listed.getD 1 false = true → y15_ = .int .i64 (k : Int)) ∧ (listed.getD 2 false = true → y16_ = .slice (some ⟨g, o, none⟩) zs.length cap) ∧ (listed.getD 3 false = true → y17_ = .int .i64 (zs.length : Int)) ∧ (listed.getD 4 false = true → y18_ = .int .i64 ((k : Int) + (zs.length : Int))) ∧ (listed.getD 5 false = true → y19_ = .int .i64 ((k : Int) + (zs.length : Int) - 1)) ∧ (listed.getD 6 false = true → y20_ = .slice (some ⟨g, o, none⟩) zs.length cap) ∧ (listed.getD 7 false = true → y21_ = .int .i64 (zs.length : Int)) ∧ (listed.getD 8 false = true → y22_ = .int .i64 (jb : Int)) ∧ (listed.getD 9 false = true → y23_ = .pointer (some ⟨g, o + jb * 6, none⟩)) ∧ (listed.getD 10 false = true → y24_ = .agg #[.bool p.s0, .slice p.A0 p.n0 p.c0, .slice p.D0 p.m0 p.e0, .bool p.s1, .slice p.A1 p.n1 p.c1, .slice p.D1 p.m1 p.e1]) ∧ (listed.getD 11 false = true → y25_ = .slice (some ⟨g, o, none⟩) zs.length cap) ∧ (listed.getD 12 false = true → y26_ = .int .i64 (k : Int)) ∧ (listed.getD 13 false = true → y27_ = .int .i64 ((k + 1 : Nat) : Int)) ∧ (listed.getD 14 false = true → y28_ = .slice (some ⟨g, o, none⟩) zs.length cap) ∧ (listed.getD 15 false = true → y29_ = .int .i64 (zs.length : Int)) ∧ (listed.getD 16 false = true → y30_ = .int .i64 (j : Int)) ∧ (listed.getD 17 false = true → y31_ = .pointer (some ⟨g, o + j * 6, none⟩)) ∧ (listed.getD 18 false = true → y32_ = .agg #[.bool b.s0, .slice b.A0 b.n0 b.c0, .slice b.D0 b.m0 b.e0, .bool b.s1, .slice b.A1 b.n1 b.c1, .slice b.D1 b.m1 b.e1]) ∧ (listed.getD 19 false = true → ∃ g5, y5_ = .pointer (some ⟨g5, 0, none⟩) ∧ BoxS (listed.getD 21 false) wx g5 #[.bool p.s0, .slice p.A0 p.n0 p.c0, .slice p.D0 p.m0 p.e0, .bool p.s1, .slice p.A1 p.n1 p.c1, .slice p.D1 p.m1 p.e1] #[.bool false, .slice none 0 0, .slice none 0 0, .bool false, .slice none 0 0, .slice none 0 0] 65 ∧ W1.heap.size ≤ g5) ∧ (listed.getD 20 false = true → ∃ g6, y6_ = .pointer (some ⟨g6, 0, none⟩) ∧ Box wx g6 #[.bool false, .slice none 0 0, .slice none 0 0, .bool false, .slice none 0 0, .slice none 0 0] 65 ∧ W1.heap.size ≤ g6) ∧ (listed.getD 19 false = true → listed.getD 20 false = true → y5_ ≠ y6_)) (m := 22) (k := 1) (by kernel_rfl) (by kernel_rfl) (by kernel_rfl) (by kernel_rfl) ⟨Ac.tmps.getD 14 undef, Ac.tmps.getD 15 undef, Ac.tmps.getD 16 undef, Ac.tmps.getD 17 undef, Ac.tmps.getD 18 undef, Ac.tmps.getD 19 undef, Ac.tmps.getD 20 undef, Ac.tmps.getD 21 undef, Ac.tmps.getD 22 undef, Ac.tmps.getD 23 undef, Ac.tmps.getD 24 undef, Ac.tmps.getD 25 undef, Ac.tmps.getD 26 undef, Ac.tmps.getD 27 undef, Ac.tmps.getD 28 undef, Ac.tmps.getD 29 undef, Ac.tmps.getD 30 undef, Ac.tmps.getD 31 undef, Ac.tmps.getD 32 undef, Ac.tmps.getD 5 undef, Ac.tmps.getD 6 undef, by subst hA; kernel_rfl, by rw [hW1]; exact Below.refl _ _, fun h => (by cases h), fun h => (by cases h), fun h => (by cases h), fun h => (by cases h), fun h => (by cases h), fun h => (by cases h), fun h => (by cases h), fun h => (by cases h), fun h => (by cases h), fun h => (by cases h), fun h => (by cases h), fun h => (by cases h), fun h => (by cases h), fun h => (by cases h), fun h => (by cases h), fun h => (by cases h), fun h => (by cases h), fun h => (by cases h), fun h => (by cases h), fun h => (by cases h), fun h => (by cases h), fun h => (by cases h)⟩ ?_ ?_
      · refine (StepsIn.cons (i := 0) (o := _) rfl ?_ (StepsIn.cons (i := 1) (o := _) rfl ?_ (StepsIn.cons (i := 2) (o := _) rfl ?_ (StepsIn.cons (i := 3) (o := _) rfl ?_ (StepsIn.cons (i := 4) (o := _) rfl ?_ (StepsIn.cons (i := 5) (o := _) rfl ?_ (StepsIn.cons (i := 6) (o := _) rfl ?_ (StepsIn.cons (i := 7) (o := _) rfl ?_ (StepsIn.cons (i := 8) (o := _) rfl ?_ (StepsIn.cons (i := 9) (o := _) rfl ?_ (StepsIn.cons (i := 10) (o := _) rfl ?_ (StepsIn.cons (i := 11) (o := _) rfl ?_ (StepsIn.cons (i := 12) (o := _) rfl ?_ (StepsIn.cons (i := 13) (o := _) rfl ?_ (StepsIn.cons (i := 14) (o := _) rfl ?_ (StepsIn.cons (i := 15) (o := _) rfl ?_ (StepsIn.cons (i := 16) (o := _) rfl ?_ (StepsIn.cons (i := 17) (o := _) rfl ?_ (StepsIn.cons (i := 18) (o := _) rfl ?_ (StepsIn.cons (i := 19) (o := _) rfl ?_ (StepsIn.cons (i := 20) (o := _) rfl ?_ (StepsIn.cons (i := 21) (o := _) rfl ?_ StepsIn.nil))))))))))))))))))))))
        · rintro listed ac wx hC ⟨y14_, y15_, y16_, y17_, y18_, y19_, y20_, y21_, y22_, y23_, y24_, y25_, y26_, y27_, y28_, y29_, y30_, y31_, y32_, y5_, y6_, rfl, hG, H0_, H1_, H2_, H3_, H4_, H5_, H6_, H7_, H8_, H9_, H10_, H11_, H12_, H13_, H14_, H15_, H16_, H17_, H18_, H19_, H20_, D19_20⟩ hi K hK
          subst hA
          (try simp only [Act.put, List.setIfInBounds_toArray, List.set_cons_zero, List.set_cons_succ])
          have cBx := (hG.cell (World.block_lt_of_cell? W1 _ cB)).trans cB
          go_simp
          refine hK.out _ _ ?_
          clear hK K
          exact ⟨.slice (some ⟨g, o, none⟩) zs.length cap, y15_, y16_, y17_, y18_, y19_, y20_, y21_, y22_, y23_, y24_, y25_, y26_, y27_, y28_, y29_, y30_, y31_, y32_, y5_, y6_, by kernel_rfl, hG, fun _ => rfl, fun h => H1_ (dep_set (by decide) h), fun h => H2_ (dep_set (by decide) h), fun h => H3_ (dep_set (by decide) h), fun h => H4_ (dep_set (by decide) h), fun h => H5_ (dep_set (by decide) h), fun h => H6_ (dep_set (by decide) h), fun h => H7_ (dep_set (by decide) h), fun h => H8_ (dep_set (by decide) h), fun h => H9_ (dep_set (by decide) h), fun h => H10_ (dep_set (by decide) h), fun h => H11_ (dep_set (by decide) h), fun h => H12_ (dep_set (by decide) h), fun h => H13_ (dep_set (by decide) h), fun h => H14_ (dep_set (by decide) h), fun h => H15_ (dep_set (by decide) h), fun h => H16_ (dep_set (by decide) h), fun h => H17_ (dep_set (by decide) h), fun h => H18_ (dep_set (by decide) h), fun h => by rw [getD_keep (by decide)]; exact H19_ (dep_set (by decide) h), fun h => H20_ (dep_set (by decide) h), fun h h9 => D19_20 (dep_set (by decide) h) (dep_set (by decide) h9)⟩
        · rintro listed ac wx hC ⟨y14_, y15_, y16_, y17_, y18_, y19_, y20_, y21_, y22_, y23_, y24_, y25_, y26_, y27_, y28_, y29_, y30_, y31_, y32_, y5_, y6_, rfl, hG, H0_, H1_, H2_, H3_, H4_, H5_, H6_, H7_, H8_, H9_, H10_, H11_, H12_, H13_, H14_, H15_, H16_, H17_, H18_, H19_, H20_, D19_20⟩ hi K hK
          subst hA
          (try simp only [Act.put, List.setIfInBounds_toArray, List.set_cons_zero, List.set_cons_succ])
          go_simp
          refine hK.out _ _ ?_
          clear hK K
          exact ⟨y14_, .int .i64 (k : Int), y16_, y17_, y18_, y19_, y20_, y21_, y22_, y23_, y24_, y25_, y26_, y27_, y28_, y29_, y30_, y31_, y32_, y5_, y6_, by kernel_rfl, hG, fun h => H0_ (dep_set (by decide) h), fun _ => rfl, fun h => H2_ (dep_set (by decide) h), fun h => H3_ (dep_set (by decide) h), fun h => H4_ (dep_set (by decide) h), fun h => H5_ (dep_set (by decide) h), fun h => H6_ (dep_set (by decide) h), fun h => H7_ (dep_set (by decide) h), fun h => H8_ (dep_set (by decide) h), fun h => H9_ (dep_set (by decide) h), fun h => H10_ (dep_set (by decide) h), fun h => H11_ (dep_set (by decide) h), fun h => H12_ (dep_set (by decide) h), fun h => H13_ (dep_set (by decide) h), fun h => H14_ (dep_set (by decide) h), fun h => H15_ (dep_set (by decide) h), fun h => H16_ (dep_set (by decide) h), fun h => H17_ (dep_set (by decide) h), fun h => H18_ (dep_set (by decide) h), fun h => by rw [getD_keep (by decide)]; exact H19_ (dep_set (by decide) h), fun h => H20_ (dep_set (by decide) h), fun h h9 => D19_20 (dep_set (by decide) h) (dep_set (by decide) h9)⟩
        · rintro listed ac wx hC ⟨y14_, y15_, y16_, y17_, y18_, y19_, y20_, y21_, y22_, y23_, y24_, y25_, y26_, y27_, y28_, y29_, y30_, y31_, y32_, y5_, y6_, rfl, hG, H0_, H1_, H2_, H3_, H4_, H5_, H6_, H7_, H8_, H9_, H10_, H11_, H12_, H13_, H14_, H15_, H16_, H17_, H18_, H19_, H20_, D19_20⟩ hi K hK
          subst hA
          (try simp only [Act.put, List.setIfInBounds_toArray, List.set_cons_zero, List.set_cons_succ])
          have cBx := (hG.cell (World.block_lt_of_cell? W1 _ cB)).trans cB
          go_simp
          refine hK.out _ _ ?_
          clear hK K
          exact ⟨y14_, y15_, .slice (some ⟨g, o, none⟩) zs.length cap, y17_, y18_, y19_, y20_, y21_, y22_, y23_, y24_, y25_, y26_, y27_, y28_, y29_, y30_, y31_, y32_, y5_, y6_, by kernel_rfl, hG, fun h => H0_ (dep_set (by decide) h), fun h => H1_ (dep_set (by decide) h), fun _ => rfl, fun h => H3_ (dep_set (by decide) h), fun h => H4_ (dep_set (by decide) h), fun h => H5_ (dep_set (by decide) h), fun h => H6_ (dep_set (by decide) h), fun h => H7_ (dep_set (by decide) h), fun h => H8_ (dep_set (by decide) h), fun h => H9_ (dep_set (by decide) h), fun h => H10_ (dep_set (by decide) h), fun h => H11_ (dep_set (by decide) h), fun h => H12_ (dep_set (by decide) h), fun h => H13_ (dep_set (by decide) h), fun h => H14_ (dep_set (by decide) h), fun h => H15_ (dep_set (by decide) h), fun h => H16_ (dep_set (by decide) h), fun h => H17_ (dep_set (by decide) h), fun h => H18_ (dep_set (by decide) h), fun h => by rw [getD_keep (by decide)]; exact H19_ (dep_set (by decide) h), fun h => H20_ (dep_set (by decide) h), fun h h9 => D19_20 (dep_set (by decide) h) (dep_set (by decide) h9)⟩
        · rintro listed ac wx hC ⟨y14_, y15_, y16_, y17_, y18_, y19_, y20_, y21_, y22_, y23_, y24_, y25_, y26_, y27_, y28_, y29_, y30_, y31_, y32_, y5_, y6_, rfl, hG, H0_, H1_, H2_, H3_, H4_, H5_, H6_, H7_, H8_, H9_, H10_, H11_, H12_, H13_, H14_, H15_, H16_, H17_, H18_, H19_, H20_, D19_20⟩ hi K hK
          obtain rfl := H2_ (dep_of hi rfl 2 (by kernel_rfl))
          subst hA
          (try simp only [Act.put, List.setIfInBounds_toArray, List.set_cons_zero, List.set_cons_succ])
          go_simp
          refine hK.out _ _ ?_
          clear hK K
          exact ⟨y14_, y15_, .slice (some ⟨g, o, none⟩) zs.length cap, .int .i64 (zs.length : Int), y18_, y19_, y20_, y21_, y22_, y23_, y24_, y25_, y26_, y27_, y28_, y29_, y30_, y31_, y32_, y5_, y6_, by kernel_rfl, hG, fun h => H0_ (dep_set (by decide) h), fun h => H1_ (dep_set (by decide) h), fun _ => rfl, fun _ => rfl, fun h => H4_ (dep_set (by decide) h), fun h => H5_ (dep_set (by decide) h), fun h => H6_ (dep_set (by decide) h), fun h => H7_ (dep_set (by decide) h), fun h => H8_ (dep_set (by decide) h), fun h => H9_ (dep_set (by decide) h), fun h => H10_ (dep_set (by decide) h), fun h => H11_ (dep_set (by decide) h), fun h => H12_ (dep_set (by decide) h), fun h => H13_ (dep_set (by decide) h), fun h => H14_ (dep_set (by decide) h), fun h => H15_ (dep_set (by decide) h), fun h => H16_ (dep_set (by decide) h), fun h => H17_ (dep_set (by decide) h), fun h => H18_ (dep_set (by decide) h), fun h => by rw [getD_keep (by decide)]; exact H19_ (dep_set (by decide) h), fun h => H20_ (dep_set (by decide) h), fun h h9 => D19_20 (dep_set (by decide) h) (dep_set (by decide) h9)⟩
        · rintro listed ac wx hC ⟨y14_, y15_, y16_, y17_, y18_, y19_, y20_, y21_, y22_, y23_, y24_, y25_, y26_, y27_, y28_, y29_, y30_, y31_, y32_, y5_, y6_, rfl, hG, H0_, H1_, H2_, H3_, H4_, H5_, H6_, H7_, H8_, H9_, H10_, H11_, H12_, H13_, H14_, H15_, H16_, H17_, H18_, H19_, H20_, D19_20⟩ hi K hK
          obtain rfl := H1_ (dep_of hi rfl 1 (by kernel_rfl))
          obtain rfl := H3_ (dep_of hi rfl 3 (by kernel_rfl))
          subst hA
          (try simp only [Act.put, List.setIfInBounds_toArray, List.set_cons_zero, List.set_cons_succ])
          go_simp
          refine hK.out _ _ ?_
          clear hK K
          exact ⟨y14_, .int .i64 (k : Int), y16_, .int .i64 (zs.length : Int), .int .i64 ((k : Int) + (zs.length : Int)), y19_, y20_, y21_, y22_, y23_, y24_, y25_, y26_, y27_, y28_, y29_, y30_, y31_, y32_, y5_, y6_, by kernel_rfl, hG, fun h => H0_ (dep_set (by decide) h), fun _ => rfl, fun h => H2_ (dep_set (by decide) h), fun _ => rfl, fun _ => rfl, fun h => H5_ (dep_set (by decide) h), fun h => H6_ (dep_set (by decide) h), fun h => H7_ (dep_set (by decide) h), fun h => H8_ (dep_set (by decide) h), fun h => H9_ (dep_set (by decide) h), fun h => H10_ (dep_set (by decide) h), fun h => H11_ (dep_set (by decide) h), fun h => H12_ (dep_set (by decide) h), fun h => H13_ (dep_set (by decide) h), fun h => H14_ (dep_set (by decide) h), fun h => H15_ (dep_set (by decide) h), fun h => H16_ (dep_set (by decide) h), fun h => H17_ (dep_set (by decide) h), fun h => H18_ (dep_set (by decide) h), fun h => by rw [getD_keep (by decide)]; exact H19_ (dep_set (by decide) h), fun h => H20_ (dep_set (by decide) h), fun h h9 => D19_20 (dep_set (by decide) h) (dep_set (by decide) h9)⟩
        · rintro listed ac wx hC ⟨y14_, y15_, y16_, y17_, y18_, y19_, y20_, y21_, y22_, y23_, y24_, y25_, y26_, y27_, y28_, y29_, y30_, y31_, y32_, y5_, y6_, rfl, hG, H0_, H1_, H2_, H3_, H4_, H5_, H6_, H7_, H8_, H9_, H10_, H11_, H12_, H13_, H14_, H15_, H16_, H17_, H18_, H19_, H20_, D19_20⟩ hi K hK
          obtain rfl := H4_ (dep_of hi rfl 4 (by kernel_rfl))
          subst hA
          (try simp only [Act.put, List.setIfInBounds_toArray, List.set_cons_zero, List.set_cons_succ])
          go_simp
          refine hK.out _ _ ?_
          clear hK K
          exact ⟨y14_, y15_, y16_, y17_, .int .i64 ((k : Int) + (zs.length : Int)), .int .i64 ((k : Int) + (zs.length : Int) - 1), y20_, y21_, y22_, y23_, y24_, y25_, y26_, y27_, y28_, y29_, y30_, y31_, y32_, y5_, y6_, by kernel_rfl, hG, fun h => H0_ (dep_set (by decide) h), fun h => H1_ (dep_set (by decide) h), fun h => H2_ (dep_set (by decide) h), fun h => H3_ (dep_set (by decide) h), fun _ => rfl, fun _ => rfl, fun h => H6_ (dep_set (by decide) h), fun h => H7_ (dep_set (by decide) h), fun h => H8_ (dep_set (by decide) h), fun h => H9_ (dep_set (by decide) h), fun h => H10_ (dep_set (by decide) h), fun h => H11_ (dep_set (by decide) h), fun h => H12_ (dep_set (by decide) h), fun h => H13_ (dep_set (by decide) h), fun h => H14_ (dep_set (by decide) h), fun h => H15_ (dep_set (by decide) h), fun h => H16_ (dep_set (by decide) h), fun h => H17_ (dep_set (by decide) h), fun h => H18_ (dep_set (by decide) h), fun h => by rw [getD_keep (by decide)]; exact H19_ (dep_set (by decide) h), fun h => H20_ (dep_set (by decide) h), fun h h9 => D19_20 (dep_set (by decide) h) (dep_set (by decide) h9)⟩
        · rintro listed ac wx hC ⟨y14_, y15_, y16_, y17_, y18_, y19_, y20_, y21_, y22_, y23_, y24_, y25_, y26_, y27_, y28_, y29_, y30_, y31_, y32_, y5_, y6_, rfl, hG, H0_, H1_, H2_, H3_, H4_, H5_, H6_, H7_, H8_, H9_, H10_, H11_, H12_, H13_, H14_, H15_, H16_, H17_, H18_, H19_, H20_, D19_20⟩ hi K hK
          subst hA
          (try simp only [Act.put, List.setIfInBounds_toArray, List.set_cons_zero, List.set_cons_succ])
          have cBx := (hG.cell (World.block_lt_of_cell? W1 _ cB)).trans cB
          go_simp
          refine hK.out _ _ ?_
          clear hK K
          exact ⟨y14_, y15_, y16_, y17_, y18_, y19_, .slice (some ⟨g, o, none⟩) zs.length cap, y21_, y22_, y23_, y24_, y25_, y26_, y27_, y28_, y29_, y30_, y31_, y32_, y5_, y6_, by kernel_rfl, hG, fun h => H0_ (dep_set (by decide) h), fun h => H1_ (dep_set (by decide) h), fun h => H2_ (dep_set (by decide) h), fun h => H3_ (dep_set (by decide) h), fun h => H4_ (dep_set (by decide) h), fun h => H5_ (dep_set (by decide) h), fun _ => rfl, fun h => H7_ (dep_set (by decide) h), fun h => H8_ (dep_set (by decide) h), fun h => H9_ (dep_set (by decide) h), fun h => H10_ (dep_set (by decide) h), fun h => H11_ (dep_set (by decide) h), fun h => H12_ (dep_set (by decide) h), fun h => H13_ (dep_set (by decide) h), fun h => H14_ (dep_set (by decide) h), fun h => H15_ (dep_set (by decide) h), fun h => H16_ (dep_set (by decide) h), fun h => H17_ (dep_set (by decide) h), fun h => H18_ (dep_set (by decide) h), fun h => by rw [getD_keep (by decide)]; exact H19_ (dep_set (by decide) h), fun h => H20_ (dep_set (by decide) h), fun h h9 => D19_20 (dep_set (by decide) h) (dep_set (by decide) h9)⟩
        · rintro listed ac wx hC ⟨y14_, y15_, y16_, y17_, y18_, y19_, y20_, y21_, y22_, y23_, y24_, y25_, y26_, y27_, y28_, y29_, y30_, y31_, y32_, y5_, y6_, rfl, hG, H0_, H1_, H2_, H3_, H4_, H5_, H6_, H7_, H8_, H9_, H10_, H11_, H12_, H13_, H14_, H15_, H16_, H17_, H18_, H19_, H20_, D19_20⟩ hi K hK
          obtain rfl := H6_ (dep_of hi rfl 6 (by kernel_rfl))
          subst hA
          (try simp only [Act.put, List.setIfInBounds_toArray, List.set_cons_zero, List.set_cons_succ])
          go_simp
          refine hK.out _ _ ?_
          clear hK K
          exact ⟨y14_, y15_, y16_, y17_, y18_, y19_, .slice (some ⟨g, o, none⟩) zs.length cap, .int .i64 (zs.length : Int), y22_, y23_, y24_, y25_, y26_, y27_, y28_, y29_, y30_, y31_, y32_, y5_, y6_, by kernel_rfl, hG, fun h => H0_ (dep_set (by decide) h), fun h => H1_ (dep_set (by decide) h), fun h => H2_ (dep_set (by decide) h), fun h => H3_ (dep_set (by decide) h), fun h => H4_ (dep_set (by decide) h), fun h => H5_ (dep_set (by decide) h), fun _ => rfl, fun _ => rfl, fun h => H8_ (dep_set (by decide) h), fun h => H9_ (dep_set (by decide) h), fun h => H10_ (dep_set (by decide) h), fun h => H11_ (dep_set (by decide) h), fun h => H12_ (dep_set (by decide) h), fun h => H13_ (dep_set (by decide) h), fun h => H14_ (dep_set (by decide) h), fun h => H15_ (dep_set (by decide) h), fun h => H16_ (dep_set (by decide) h), fun h => H17_ (dep_set (by decide) h), fun h => H18_ (dep_set (by decide) h), fun h => by rw [getD_keep (by decide)]; exact H19_ (dep_set (by decide) h), fun h => H20_ (dep_set (by decide) h), fun h h9 => D19_20 (dep_set (by decide) h) (dep_set (by decide) h9)⟩
        · rintro listed ac wx hC ⟨y14_, y15_, y16_, y17_, y18_, y19_, y20_, y21_, y22_, y23_, y24_, y25_, y26_, y27_, y28_, y29_, y30_, y31_, y32_, y5_, y6_, rfl, hG, H0_, H1_, H2_, H3_, H4_, H5_, H6_, H7_, H8_, H9_, H10_, H11_, H12_, H13_, H14_, H15_, H16_, H17_, H18_, H19_, H20_, D19_20⟩ hi K hK
          obtain rfl := H5_ (dep_of hi rfl 5 (by kernel_rfl))
          obtain rfl := H7_ (dep_of hi rfl 7 (by kernel_rfl))
          subst hA
          (try simp only [Act.put, List.setIfInBounds_toArray, List.set_cons_zero, List.set_cons_succ])
          go_simp
          refine hK.out _ _ ?_
          clear hK K
          exact ⟨y14_, y15_, y16_, y17_, y18_, .int .i64 ((k : Int) + (zs.length : Int) - 1), y20_, .int .i64 (zs.length : Int), .int .i64 (jb : Int), y23_, y24_, y25_, y26_, y27_, y28_, y29_, y30_, y31_, y32_, y5_, y6_, by kernel_rfl, hG, fun h => H0_ (dep_set (by decide) h), fun h => H1_ (dep_set (by decide) h), fun h => H2_ (dep_set (by decide) h), fun h => H3_ (dep_set (by decide) h), fun h => H4_ (dep_set (by decide) h), fun _ => rfl, fun h => H6_ (dep_set (by decide) h), fun _ => rfl, fun _ => rfl, fun h => H9_ (dep_set (by decide) h), fun h => H10_ (dep_set (by decide) h), fun h => H11_ (dep_set (by decide) h), fun h => H12_ (dep_set (by decide) h), fun h => H13_ (dep_set (by decide) h), fun h => H14_ (dep_set (by decide) h), fun h => H15_ (dep_set (by decide) h), fun h => H16_ (dep_set (by decide) h), fun h => H17_ (dep_set (by decide) h), fun h => H18_ (dep_set (by decide) h), fun h => by rw [getD_keep (by decide)]; exact H19_ (dep_set (by decide) h), fun h => H20_ (dep_set (by decide) h), fun h h9 => D19_20 (dep_set (by decide) h) (dep_set (by decide) h9)⟩
        · rintro listed ac wx hC ⟨y14_, y15_, y16_, y17_, y18_, y19_, y20_, y21_, y22_, y23_, y24_, y25_, y26_, y27_, y28_, y29_, y30_, y31_, y32_, y5_, y6_, rfl, hG, H0_, H1_, H2_, H3_, H4_, H5_, H6_, H7_, H8_, H9_, H10_, H11_, H12_, H13_, H14_, H15_, H16_, H17_, H18_, H19_, H20_, D19_20⟩ hi K hK
          obtain rfl := H0_ (dep_of hi rfl 0 (by kernel_rfl))
          obtain rfl := H8_ (dep_of hi rfl 8 (by kernel_rfl))
          subst hA
          (try simp only [Act.put, List.setIfInBounds_toArray, List.set_cons_zero, List.set_cons_succ])
          go_simp
          refine hK.out _ _ ?_
          clear hK K
          exact ⟨.slice (some ⟨g, o, none⟩) zs.length cap, y15_, y16_, y17_, y18_, y19_, y20_, y21_, .int .i64 (jb : Int), .pointer (some ⟨g, o + jb * 6, none⟩), y24_, y25_, y26_, y27_, y28_, y29_, y30_, y31_, y32_, y5_, y6_, by kernel_rfl, hG, fun _ => rfl, fun h => H1_ (dep_set (by decide) h), fun h => H2_ (dep_set (by decide) h), fun h => H3_ (dep_set (by decide) h), fun h => H4_ (dep_set (by decide) h), fun h => H5_ (dep_set (by decide) h), fun h => H6_ (dep_set (by decide) h), fun h => H7_ (dep_set (by decide) h), fun _ => rfl, fun _ => rfl, fun h => H10_ (dep_set (by decide) h), fun h => H11_ (dep_set (by decide) h), fun h => H12_ (dep_set (by decide) h), fun h => H13_ (dep_set (by decide) h), fun h => H14_ (dep_set (by decide) h), fun h => H15_ (dep_set (by decide) h), fun h => H16_ (dep_set (by decide) h), fun h => H17_ (dep_set (by decide) h), fun h => H18_ (dep_set (by decide) h), fun h => by rw [getD_keep (by decide)]; exact H19_ (dep_set (by decide) h), fun h => H20_ (dep_set (by decide) h), fun h h9 => D19_20 (dep_set (by decide) h) (dep_set (by decide) h9)⟩
        · rintro listed ac wx hC ⟨y14_, y15_, y16_, y17_, y18_, y19_, y20_, y21_, y22_, y23_, y24_, y25_, y26_, y27_, y28_, y29_, y30_, y31_, y32_, y5_, y6_, rfl, hG, H0_, H1_, H2_, H3_, H4_, H5_, H6_, H7_, H8_, H9_, H10_, H11_, H12_, H13_, H14_, H15_, H16_, H17_, H18_, H19_, H20_, D19_20⟩ hi K hK
          obtain rfl := H9_ (dep_of hi rfl 9 (by kernel_rfl))
          subst hA
          (try simp only [Act.put, List.setIfInBounds_toArray, List.set_cons_zero, List.set_cons_succ])
          have u0 := (hG.cell (World.block_lt_of_cell? W1 _ d0)).trans d0
          have u1 := (hG.cell (World.block_lt_of_cell? W1 _ d1)).trans d1
          have u2 := (hG.cell (World.block_lt_of_cell? W1 _ d2)).trans d2
          have u3 := (hG.cell (World.block_lt_of_cell? W1 _ d3)).trans d3
          have u4 := (hG.cell (World.block_lt_of_cell? W1 _ d4)).trans d4
          have u5 := (hG.cell (World.block_lt_of_cell? W1 _ d5)).trans d5
          go_simp
          refine hK.out _ _ ?_
          clear hK K
          exact ⟨y14_, y15_, y16_, y17_, y18_, y19_, y20_, y21_, y22_, .pointer (some ⟨g, o + jb * 6, none⟩), .agg #[.bool p.s0, .slice p.A0 p.n0 p.c0, .slice p.D0 p.m0 p.e0, .bool p.s1, .slice p.A1 p.n1 p.c1, .slice p.D1 p.m1 p.e1], y25_, y26_, y27_, y28_, y29_, y30_, y31_, y32_, y5_, y6_, by kernel_rfl, hG, fun h => H0_ (dep_set (by decide) h), fun h => H1_ (dep_set (by decide) h), fun h => H2_ (dep_set (by decide) h), fun h => H3_ (dep_set (by decide) h), fun h => H4_ (dep_set (by decide) h), fun h => H5_ (dep_set (by decide) h), fun h => H6_ (dep_set (by decide) h), fun h => H7_ (dep_set (by decide) h), fun h => H8_ (dep_set (by decide) h), fun _ => rfl, fun _ => rfl, fun h => H11_ (dep_set (by decide) h), fun h => H12_ (dep_set (by decide) h), fun h => H13_ (dep_set (by decide) h), fun h => H14_ (dep_set (by decide) h), fun h => H15_ (dep_set (by decide) h), fun h => H16_ (dep_set (by decide) h), fun h => H17_ (dep_set (by decide) h), fun h => H18_ (dep_set (by decide) h), fun h => by rw [getD_keep (by decide)]; exact H19_ (dep_set (by decide) h), fun h => H20_ (dep_set (by decide) h), fun h h9 => D19_20 (dep_set (by decide) h) (dep_set (by decide) h9)⟩
        · rintro listed ac wx hC ⟨y14_, y15_, y16_, y17_, y18_, y19_, y20_, y21_, y22_, y23_, y24_, y25_, y26_, y27_, y28_, y29_, y30_, y31_, y32_, y5_, y6_, rfl, hG, H0_, H1_, H2_, H3_, H4_, H5_, H6_, H7_, H8_, H9_, H10_, H11_, H12_, H13_, H14_, H15_, H16_, H17_, H18_, H19_, H20_, D19_20⟩ hi K hK
          subst hA
          (try simp only [Act.put, List.setIfInBounds_toArray, List.set_cons_zero, List.set_cons_succ])
          have cBx := (hG.cell (World.block_lt_of_cell? W1 _ cB)).trans cB
          go_simp
          refine hK.out _ _ ?_
          clear hK K
          exact ⟨y14_, y15_, y16_, y17_, y18_, y19_, y20_, y21_, y22_, y23_, y24_, .slice (some ⟨g, o, none⟩) zs.length cap, y26_, y27_, y28_, y29_, y30_, y31_, y32_, y5_, y6_, by kernel_rfl, hG, fun h => H0_ (dep_set (by decide) h), fun h => H1_ (dep_set (by decide) h), fun h => H2_ (dep_set (by decide) h), fun h => H3_ (dep_set (by decide) h), fun h => H4_ (dep_set (by decide) h), fun h => H5_ (dep_set (by decide) h), fun h => H6_ (dep_set (by decide) h), fun h => H7_ (dep_set (by decide) h), fun h => H8_ (dep_set (by decide) h), fun h => H9_ (dep_set (by decide) h), fun h => H10_ (dep_set (by decide) h), fun _ => rfl, fun h => H12_ (dep_set (by decide) h), fun h => H13_ (dep_set (by decide) h), fun h => H14_ (dep_set (by decide) h), fun h => H15_ (dep_set (by decide) h), fun h => H16_ (dep_set (by decide) h), fun h => H17_ (dep_set (by decide) h), fun h => H18_ (dep_set (by decide) h), fun h => by rw [getD_keep (by decide)]; exact H19_ (dep_set (by decide) h), fun h => H20_ (dep_set (by decide) h), fun h h9 => D19_20 (dep_set (by decide) h) (dep_set (by decide) h9)⟩
        · rintro listed ac wx hC ⟨y14_, y15_, y16_, y17_, y18_, y19_, y20_, y21_, y22_, y23_, y24_, y25_, y26_, y27_, y28_, y29_, y30_, y31_, y32_, y5_, y6_, rfl, hG, H0_, H1_, H2_, H3_, H4_, H5_, H6_, H7_, H8_, H9_, H10_, H11_, H12_, H13_, H14_, H15_, H16_, H17_, H18_, H19_, H20_, D19_20⟩ hi K hK
          subst hA
          (try simp only [Act.put, List.setIfInBounds_toArray, List.set_cons_zero, List.set_cons_succ])
          go_simp
          refine hK.out _ _ ?_
          clear hK K
          exact ⟨y14_, y15_, y16_, y17_, y18_, y19_, y20_, y21_, y22_, y23_, y24_, y25_, .int .i64 (k : Int), y27_, y28_, y29_, y30_, y31_, y32_, y5_, y6_, by kernel_rfl, hG, fun h => H0_ (dep_set (by decide) h), fun h => H1_ (dep_set (by decide) h), fun h => H2_ (dep_set (by decide) h), fun h => H3_ (dep_set (by decide) h), fun h => H4_ (dep_set (by decide) h), fun h => H5_ (dep_set (by decide) h), fun h => H6_ (dep_set (by decide) h), fun h => H7_ (dep_set (by decide) h), fun h => H8_ (dep_set (by decide) h), fun h => H9_ (dep_set (by decide) h), fun h => H10_ (dep_set (by decide) h), fun h => H11_ (dep_set (by decide) h), fun _ => rfl, fun h => H13_ (dep_set (by decide) h), fun h => H14_ (dep_set (by decide) h), fun h => H15_ (dep_set (by decide) h), fun h => H16_ (dep_set (by decide) h), fun h => H17_ (dep_set (by decide) h), fun h => H18_ (dep_set (by decide) h), fun h => by rw [getD_keep (by decide)]; exact H19_ (dep_set (by decide) h), fun h => H20_ (dep_set (by decide) h), fun h h9 => D19_20 (dep_set (by decide) h) (dep_set (by decide) h9)⟩
        · rintro listed ac wx hC ⟨y14_, y15_, y16_, y17_, y18_, y19_, y20_, y21_, y22_, y23_, y24_, y25_, y26_, y27_, y28_, y29_, y30_, y31_, y32_, y5_, y6_, rfl, hG, H0_, H1_, H2_, H3_, H4_, H5_, H6_, H7_, H8_, H9_, H10_, H11_, H12_, H13_, H14_, H15_, H16_, H17_, H18_, H19_, H20_, D19_20⟩ hi K hK
          obtain rfl := H12_ (dep_of hi rfl 12 (by kernel_rfl))
          subst hA
          (try simp only [Act.put, List.setIfInBounds_toArray, List.set_cons_zero, List.set_cons_succ])
          go_simp
          refine hK.out _ _ ?_
          clear hK K
          exact ⟨y14_, y15_, y16_, y17_, y18_, y19_, y20_, y21_, y22_, y23_, y24_, y25_, .int .i64 (k : Int), .int .i64 ((k + 1 : Nat) : Int), y28_, y29_, y30_, y31_, y32_, y5_, y6_, by kernel_rfl, hG, fun h => H0_ (dep_set (by decide) h), fun h => H1_ (dep_set (by decide) h), fun h => H2_ (dep_set (by decide) h), fun h => H3_ (dep_set (by decide) h), fun h => H4_ (dep_set (by decide) h), fun h => H5_ (dep_set (by decide) h), fun h => H6_ (dep_set (by decide) h), fun h => H7_ (dep_set (by decide) h), fun h => H8_ (dep_set (by decide) h), fun h => H9_ (dep_set (by decide) h), fun h => H10_ (dep_set (by decide) h), fun h => H11_ (dep_set (by decide) h), fun _ => rfl, fun _ => rfl, fun h => H14_ (dep_set (by decide) h), fun h => H15_ (dep_set (by decide) h), fun h => H16_ (dep_set (by decide) h), fun h => H17_ (dep_set (by decide) h), fun h => H18_ (dep_set (by decide) h), fun h => by rw [getD_keep (by decide)]; exact H19_ (dep_set (by decide) h), fun h => H20_ (dep_set (by decide) h), fun h h9 => D19_20 (dep_set (by decide) h) (dep_set (by decide) h9)⟩
        · rintro listed ac wx hC ⟨y14_, y15_, y16_, y17_, y18_, y19_, y20_, y21_, y22_, y23_, y24_, y25_, y26_, y27_, y28_, y29_, y30_, y31_, y32_, y5_, y6_, rfl, hG, H0_, H1_, H2_, H3_, H4_, H5_, H6_, H7_, H8_, H9_, H10_, H11_, H12_, H13_, H14_, H15_, H16_, H17_, H18_, H19_, H20_, D19_20⟩ hi K hK
          subst hA
          (try simp only [Act.put, List.setIfInBounds_toArray, List.set_cons_zero, List.set_cons_succ])
          have cBx := (hG.cell (World.block_lt_of_cell? W1 _ cB)).trans cB
          go_simp
          refine hK.out _ _ ?_
          clear hK K
          exact ⟨y14_, y15_, y16_, y17_, y18_, y19_, y20_, y21_, y22_, y23_, y24_, y25_, y26_, y27_, .slice (some ⟨g, o, none⟩) zs.length cap, y29_, y30_, y31_, y32_, y5_, y6_, by kernel_rfl, hG, fun h => H0_ (dep_set (by decide) h), fun h => H1_ (dep_set (by decide) h), fun h => H2_ (dep_set (by decide) h), fun h => H3_ (dep_set (by decide) h), fun h => H4_ (dep_set (by decide) h), fun h => H5_ (dep_set (by decide) h), fun h => H6_ (dep_set (by decide) h), fun h => H7_ (dep_set (by decide) h), fun h => H8_ (dep_set (by decide) h), fun h => H9_ (dep_set (by decide) h), fun h => H10_ (dep_set (by decide) h), fun h => H11_ (dep_set (by decide) h), fun h => H12_ (dep_set (by decide) h), fun h => H13_ (dep_set (by decide) h), fun _ => rfl, fun h => H15_ (dep_set (by decide) h), fun h => H16_ (dep_set (by decide) h), fun h => H17_ (dep_set (by decide) h), fun h => H18_ (dep_set (by decide) h), fun h => by rw [getD_keep (by decide)]; exact H19_ (dep_set (by decide) h), fun h => H20_ (dep_set (by decide) h), fun h h9 => D19_20 (dep_set (by decide) h) (dep_set (by decide) h9)⟩
        · rintro listed ac wx hC ⟨y14_, y15_, y16_, y17_, y18_, y19_, y20_, y21_, y22_, y23_, y24_, y25_, y26_, y27_, y28_, y29_, y30_, y31_, y32_, y5_, y6_, rfl, hG, H0_, H1_, H2_, H3_, H4_, H5_, H6_, H7_, H8_, H9_, H10_, H11_, H12_, H13_, H14_, H15_, H16_, H17_, H18_, H19_, H20_, D19_20⟩ hi K hK
          obtain rfl := H14_ (dep_of hi rfl 14 (by kernel_rfl))
          subst hA
          (try simp only [Act.put, List.setIfInBounds_toArray, List.set_cons_zero, List.set_cons_succ])
          go_simp
          refine hK.out _ _ ?_
          clear hK K
          exact ⟨y14_, y15_, y16_, y17_, y18_, y19_, y20_, y21_, y22_, y23_, y24_, y25_, y26_, y27_, .slice (some ⟨g, o, none⟩) zs.length cap, .int .i64 (zs.length : Int), y30_, y31_, y32_, y5_, y6_, by kernel_rfl, hG, fun h => H0_ (dep_set (by decide) h), fun h => H1_ (dep_set (by decide) h), fun h => H2_ (dep_set (by decide) h), fun h => H3_ (dep_set (by decide) h), fun h => H4_ (dep_set (by decide) h), fun h => H5_ (dep_set (by decide) h), fun h => H6_ (dep_set (by decide) h), fun h => H7_ (dep_set (by decide) h), fun h => H8_ (dep_set (by decide) h), fun h => H9_ (dep_set (by decide) h), fun h => H10_ (dep_set (by decide) h), fun h => H11_ (dep_set (by decide) h), fun h => H12_ (dep_set (by decide) h), fun h => H13_ (dep_set (by decide) h), fun _ => rfl, fun _ => rfl, fun h => H16_ (dep_set (by decide) h), fun h => H17_ (dep_set (by decide) h), fun h => H18_ (dep_set (by decide) h), fun h => by rw [getD_keep (by decide)]; exact H19_ (dep_set (by decide) h), fun h => H20_ (dep_set (by decide) h), fun h h9 => D19_20 (dep_set (by decide) h) (dep_set (by decide) h9)⟩
        · rintro listed ac wx hC ⟨y14_, y15_, y16_, y17_, y18_, y19_, y20_, y21_, y22_, y23_, y24_, y25_, y26_, y27_, y28_, y29_, y30_, y31_, y32_, y5_, y6_, rfl, hG, H0_, H1_, H2_, H3_, H4_, H5_, H6_, H7_, H8_, H9_, H10_, H11_, H12_, H13_, H14_, H15_, H16_, H17_, H18_, H19_, H20_, D19_20⟩ hi K hK
          obtain rfl := H13_ (dep_of hi rfl 13 (by kernel_rfl))
          obtain rfl := H15_ (dep_of hi rfl 15 (by kernel_rfl))
          subst hA
          (try simp only [Act.put, List.setIfInBounds_toArray, List.set_cons_zero, List.set_cons_succ])
          go_simp
          refine hK.out _ _ ?_
          clear hK K
          exact ⟨y14_, y15_, y16_, y17_, y18_, y19_, y20_, y21_, y22_, y23_, y24_, y25_, y26_, .int .i64 ((k + 1 : Nat) : Int), y28_, .int .i64 (zs.length : Int), .int .i64 (j : Int), y31_, y32_, y5_, y6_, by kernel_rfl, hG, fun h => H0_ (dep_set (by decide) h), fun h => H1_ (dep_set (by decide) h), fun h => H2_ (dep_set (by decide) h), fun h => H3_ (dep_set (by decide) h), fun h => H4_ (dep_set (by decide) h), fun h => H5_ (dep_set (by decide) h), fun h => H6_ (dep_set (by decide) h), fun h => H7_ (dep_set (by decide) h), fun h => H8_ (dep_set (by decide) h), fun h => H9_ (dep_set (by decide) h), fun h => H10_ (dep_set (by decide) h), fun h => H11_ (dep_set (by decide) h), fun h => H12_ (dep_set (by decide) h), fun _ => rfl, fun h => H14_ (dep_set (by decide) h), fun _ => rfl, fun _ => rfl, fun h => H17_ (dep_set (by decide) h), fun h => H18_ (dep_set (by decide) h), fun h => by rw [getD_keep (by decide)]; exact H19_ (dep_set (by decide) h), fun h => H20_ (dep_set (by decide) h), fun h h9 => D19_20 (dep_set (by decide) h) (dep_set (by decide) h9)⟩
        · rintro listed ac wx hC ⟨y14_, y15_, y16_, y17_, y18_, y19_, y20_, y21_, y22_, y23_, y24_, y25_, y26_, y27_, y28_, y29_, y30_, y31_, y32_, y5_, y6_, rfl, hG, H0_, H1_, H2_, H3_, H4_, H5_, H6_, H7_, H8_, H9_, H10_, H11_, H12_, H13_, H14_, H15_, H16_, H17_, H18_, H19_, H20_, D19_20⟩ hi K hK
          obtain rfl := H11_ (dep_of hi rfl 11 (by kernel_rfl))
          obtain rfl := H16_ (dep_of hi rfl 16 (by kernel_rfl))
          subst hA
          (try simp only [Act.put, List.setIfInBounds_toArray, List.set_cons_zero, List.set_cons_succ])
          go_simp
          refine hK.out _ _ ?_
          clear hK K
          exact ⟨y14_, y15_, y16_, y17_, y18_, y19_, y20_, y21_, y22_, y23_, y24_, .slice (some ⟨g, o, none⟩) zs.length cap, y26_, y27_, y28_, y29_, .int .i64 (j : Int), .pointer (some ⟨g, o + j * 6, none⟩), y32_, y5_, y6_, by kernel_rfl, hG, fun h => H0_ (dep_set (by decide) h), fun h => H1_ (dep_set (by decide) h), fun h => H2_ (dep_set (by decide) h), fun h => H3_ (dep_set (by decide) h), fun h => H4_ (dep_set (by decide) h), fun h => H5_ (dep_set (by decide) h), fun h => H6_ (dep_set (by decide) h), fun h => H7_ (dep_set (by decide) h), fun h => H8_ (dep_set (by decide) h), fun h => H9_ (dep_set (by decide) h), fun h => H10_ (dep_set (by decide) h), fun _ => rfl, fun h => H12_ (dep_set (by decide) h), fun h => H13_ (dep_set (by decide) h), fun h => H14_ (dep_set (by decide) h), fun h => H15_ (dep_set (by decide) h), fun _ => rfl, fun _ => rfl, fun h => H18_ (dep_set (by decide) h), fun h => by rw [getD_keep (by decide)]; exact H19_ (dep_set (by decide) h), fun h => H20_ (dep_set (by decide) h), fun h h9 => D19_20 (dep_set (by decide) h) (dep_set (by decide) h9)⟩
        · rintro listed ac wx hC ⟨y14_, y15_, y16_, y17_, y18_, y19_, y20_, y21_, y22_, y23_, y24_, y25_, y26_, y27_, y28_, y29_, y30_, y31_, y32_, y5_, y6_, rfl, hG, H0_, H1_, H2_, H3_, H4_, H5_, H6_, H7_, H8_, H9_, H10_, H11_, H12_, H13_, H14_, H15_, H16_, H17_, H18_, H19_, H20_, D19_20⟩ hi K hK
          obtain rfl := H17_ (dep_of hi rfl 17 (by kernel_rfl))
          subst hA
          (try simp only [Act.put, List.setIfInBounds_toArray, List.set_cons_zero, List.set_cons_succ])
          have u0 := (hG.cell (World.block_lt_of_cell? W1 _ f0)).trans f0
          have u1 := (hG.cell (World.block_lt_of_cell? W1 _ f1)).trans f1
          have u2 := (hG.cell (World.block_lt_of_cell? W1 _ f2)).trans f2
          have u3 := (hG.cell (World.block_lt_of_cell? W1 _ f3)).trans f3
          have u4 := (hG.cell (World.block_lt_of_cell? W1 _ f4)).trans f4
          have u5 := (hG.cell (World.block_lt_of_cell? W1 _ f5)).trans f5
          go_simp
          refine hK.out _ _ ?_
          clear hK K
          exact ⟨y14_, y15_, y16_, y17_, y18_, y19_, y20_, y21_, y22_, y23_, y24_, y25_, y26_, y27_, y28_, y29_, y30_, .pointer (some ⟨g, o + j * 6, none⟩), .agg #[.bool b.s0, .slice b.A0 b.n0 b.c0, .slice b.D0 b.m0 b.e0, .bool b.s1, .slice b.A1 b.n1 b.c1, .slice b.D1 b.m1 b.e1], y5_, y6_, by kernel_rfl, hG, fun h => H0_ (dep_set (by decide) h), fun h => H1_ (dep_set (by decide) h), fun h => H2_ (dep_set (by decide) h), fun h => H3_ (dep_set (by decide) h), fun h => H4_ (dep_set (by decide) h), fun h => H5_ (dep_set (by decide) h), fun h => H6_ (dep_set (by decide) h), fun h => H7_ (dep_set (by decide) h), fun h => H8_ (dep_set (by decide) h), fun h => H9_ (dep_set (by decide) h), fun h => H10_ (dep_set (by decide) h), fun h => H11_ (dep_set (by decide) h), fun h => H12_ (dep_set (by decide) h), fun h => H13_ (dep_set (by decide) h), fun h => H14_ (dep_set (by decide) h), fun h => H15_ (dep_set (by decide) h), fun h => H16_ (dep_set (by decide) h), fun _ => rfl, fun _ => rfl, fun h => by rw [getD_keep (by decide)]; exact H19_ (dep_set (by decide) h), fun h => H20_ (dep_set (by decide) h), fun h h9 => D19_20 (dep_set (by decide) h) (dep_set (by decide) h9)⟩
        · rintro listed ac wx hC ⟨y14_, y15_, y16_, y17_, y18_, y19_, y20_, y21_, y22_, y23_, y24_, y25_, y26_, y27_, y28_, y29_, y30_, y31_, y32_, y5_, y6_, rfl, hG, H0_, H1_, H2_, H3_, H4_, H5_, H6_, H7_, H8_, H9_, H10_, H11_, H12_, H13_, H14_, H15_, H16_, H17_, H18_, H19_, H20_, D19_20⟩ hi K hK
          subst hA
          (try simp only [Act.put, List.setIfInBounds_toArray, List.set_cons_zero, List.set_cons_succ])
          go_simp
          refine hK.out _ _ ?_
          clear hK K
          obtain ⟨Wn, hWn, bn, hb9, hsn⟩ := boxes1 wx #[.bool false, .slice none 0 0, .slice none 0 0, .bool false, .slice none 0 0, .slice none 0 0] 65
          rw [hWn]
          exact ⟨y14_, y15_, y16_, y17_, y18_, y19_, y20_, y21_, y22_, y23_, y24_, y25_, y26_, y27_, y28_, y29_, y30_, y31_, y32_, .pointer (some ⟨wx.heap.size, 0, none⟩), y6_, by kernel_rfl, hG.trans (hb9.mono hG.size), fun h => H0_ (dep_set (by decide) h), fun h => H1_ (dep_set (by decide) h), fun h => H2_ (dep_set (by decide) h), fun h => H3_ (dep_set (by decide) h), fun h => H4_ (dep_set (by decide) h), fun h => H5_ (dep_set (by decide) h), fun h => H6_ (dep_set (by decide) h), fun h => H7_ (dep_set (by decide) h), fun h => H8_ (dep_set (by decide) h), fun h => H9_ (dep_set (by decide) h), fun h => H10_ (dep_set (by decide) h), fun h => H11_ (dep_set (by decide) h), fun h => H12_ (dep_set (by decide) h), fun h => H13_ (dep_set (by decide) h), fun h => H14_ (dep_set (by decide) h), fun h => H15_ (dep_set (by decide) h), fun h => H16_ (dep_set (by decide) h), fun h => H17_ (dep_set (by decide) h), fun h => H18_ (dep_set (by decide) h), fun _ => ⟨_, rfl, BoxS.mk0 bn (by rw [getD_keep (by decide)]; exact not_yet hC hi rfl (by kernel_rfl)), hG.size⟩, fun h => by obtain ⟨g_, e_, b_, l_⟩ := H20_ (dep_set (by decide) h); exact ⟨g_, e_, b_.below hb9, l_⟩, fun _ h => by obtain ⟨g_, e_, b_, _⟩ := H20_ (dep_set (by decide) h); rw [e_]; have l_ := Box.lt b_; intro q; injection q with q; injection q with q; injection q with q; omega⟩
        · rintro listed ac wx hC ⟨y14_, y15_, y16_, y17_, y18_, y19_, y20_, y21_, y22_, y23_, y24_, y25_, y26_, y27_, y28_, y29_, y30_, y31_, y32_, y5_, y6_, rfl, hG, H0_, H1_, H2_, H3_, H4_, H5_, H6_, H7_, H8_, H9_, H10_, H11_, H12_, H13_, H14_, H15_, H16_, H17_, H18_, H19_, H20_, D19_20⟩ hi K hK
          subst hA
          (try simp only [Act.put, List.setIfInBounds_toArray, List.set_cons_zero, List.set_cons_succ])
          go_simp
          refine hK.out _ _ ?_
          clear hK K
          obtain ⟨Wn, hWn, bn, hb9, hsn⟩ := boxes1 wx #[.bool false, .slice none 0 0, .slice none 0 0, .bool false, .slice none 0 0, .slice none 0 0] 65
          rw [hWn]
          exact ⟨y14_, y15_, y16_, y17_, y18_, y19_, y20_, y21_, y22_, y23_, y24_, y25_, y26_, y27_, y28_, y29_, y30_, y31_, y32_, y5_, .pointer (some ⟨wx.heap.size, 0, none⟩), by kernel_rfl, hG.trans (hb9.mono hG.size), fun h => H0_ (dep_set (by decide) h), fun h => H1_ (dep_set (by decide) h), fun h => H2_ (dep_set (by decide) h), fun h => H3_ (dep_set (by decide) h), fun h => H4_ (dep_set (by decide) h), fun h => H5_ (dep_set (by decide) h), fun h => H6_ (dep_set (by decide) h), fun h => H7_ (dep_set (by decide) h), fun h => H8_ (dep_set (by decide) h), fun h => H9_ (dep_set (by decide) h), fun h => H10_ (dep_set (by decide) h), fun h => H11_ (dep_set (by decide) h), fun h => H12_ (dep_set (by decide) h), fun h => H13_ (dep_set (by decide) h), fun h => H14_ (dep_set (by decide) h), fun h => H15_ (dep_set (by decide) h), fun h => H16_ (dep_set (by decide) h), fun h => H17_ (dep_set (by decide) h), fun h => H18_ (dep_set (by decide) h), fun h => by obtain ⟨g_, e_, b_, l_⟩ := H19_ (dep_set (by decide) h); rw [getD_keep (by decide)]; exact ⟨g_, e_, b_.below hb9, l_⟩, fun _ => ⟨_, rfl, bn, hG.size⟩, fun h _ => by obtain ⟨g_, e_, b_, _⟩ := H19_ (dep_set (by decide) h); rw [e_]; have l_ := Box.lt b_; intro q; injection q with q; injection q with q; injection q with q; omega⟩
        · rintro listed ac wx hC ⟨y14_, y15_, y16_, y17_, y18_, y19_, y20_, y21_, y22_, y23_, y24_, y25_, y26_, y27_, y28_, y29_, y30_, y31_, y32_, y5_, y6_, rfl, hG, H0_, H1_, H2_, H3_, H4_, H5_, H6_, H7_, H8_, H9_, H10_, H11_, H12_, H13_, H14_, H15_, H16_, H17_, H18_, H19_, H20_, D19_20⟩ hi K hK
          obtain rfl := H10_ (dep_of hi rfl 10 (by kernel_rfl))
          have e19_ := dep_of hi rfl 19 (by kernel_rfl)
          obtain ⟨g_, rfl, b_, l_⟩ := H19_ e19_
          replace b_ := BoxS.off b_ (ready_off hi)
          subst hA
          (try simp only [Act.put, List.setIfInBounds_toArray, List.set_cons_zero, List.set_cons_succ])
          have z0 := b_.cell 0 _ rfl
          have z1 := b_.cell 1 _ rfl
          have z2 := b_.cell 2 _ rfl
          have z3 := b_.cell 3 _ rfl
          have z4 := b_.cell 4 _ rfl
          have z5 := b_.cell 5 _ rfl
          have q0 := b_.frozen 0
          have q1 := b_.frozen 1
          have q2 := b_.frozen 2
          have q3 := b_.frozen 3
          have q4 := b_.frozen 4
          have q5 := b_.frozen 5
          go_simp
          refine hK.out _ _ ?_
          clear hK K z0 q0 z1 q1 z2 q2 z3 q3 z4 q4 z5 q5
          have hg := only_store6 wx g_ (.bool p.s0) (.slice p.A0 p.n0 p.c0) (.slice p.D0 p.m0 p.e0) (.bool p.s1) (.slice p.A1 p.n1 p.c1) (.slice p.D1 p.m1 p.e1)
          have hB := b_.stored6 (.bool p.s0) (.slice p.A0 p.n0 p.c0) (.slice p.D0 p.m0 p.e0) (.bool p.s1) (.slice p.A1 p.n1 p.c1) (.slice p.D1 p.m1 p.e1)
          generalize hX : ((((((wx.setCell ⟨g_, 0, none⟩ (.bool p.s0)).setCell ⟨g_, 1, none⟩ (.slice p.A0 p.n0 p.c0)).setCell ⟨g_, 2, none⟩ (.slice p.D0 p.m0 p.e0)).setCell ⟨g_, 3, none⟩ (.bool p.s1)).setCell ⟨g_, 4, none⟩ (.slice p.A1 p.n1 p.c1)).setCell ⟨g_, 5, none⟩ (.slice p.D1 p.m1 p.e1)) = X at hg hB ⊢
          clear hX
          exact ⟨y14_, y15_, y16_, y17_, y18_, y19_, y20_, y21_, y22_, y23_, .agg #[.bool p.s0, .slice p.A0 p.n0 p.c0, .slice p.D0 p.m0 p.e0, .bool p.s1, .slice p.A1 p.n1 p.c1, .slice p.D1 p.m1 p.e1], y25_, y26_, y27_, y28_, y29_, y30_, y31_, y32_, .pointer (some ⟨g_, 0, none⟩), y6_, by kernel_rfl, below_only hG hg l_ hG.size, fun h => H0_ (dep_set (by decide) h), fun h => H1_ (dep_set (by decide) h), fun h => H2_ (dep_set (by decide) h), fun h => H3_ (dep_set (by decide) h), fun h => H4_ (dep_set (by decide) h), fun h => H5_ (dep_set (by decide) h), fun h => H6_ (dep_set (by decide) h), fun h => H7_ (dep_set (by decide) h), fun h => H8_ (dep_set (by decide) h), fun h => H9_ (dep_set (by decide) h), fun _ => rfl, fun h => H11_ (dep_set (by decide) h), fun h => H12_ (dep_set (by decide) h), fun h => H13_ (dep_set (by decide) h), fun h => H14_ (dep_set (by decide) h), fun h => H15_ (dep_set (by decide) h), fun h => H16_ (dep_set (by decide) h), fun h => H17_ (dep_set (by decide) h), fun h => H18_ (dep_set (by decide) h), fun _ => ⟨_, rfl, BoxS.mk1 hB (set_on hi), l_⟩, fun h => by obtain ⟨g2, e2, b2, l2⟩ := H20_ (dep_set (by decide) h); exact ⟨g2, e2, b2.other hg (fun q => D19_20 e19_ (dep_set (by decide) h) (by rw [e2, q])), l2⟩, fun h h9 => D19_20 (dep_set (by decide) h) (dep_set (by decide) h9)⟩
      rintro ac wx ⟨y14_, y15_, y16_, y17_, y18_, y19_, y20_, y21_, y22_, y23_, y24_, y25_, y26_, y27_, y28_, y29_, y30_, y31_, y32_, y5_, y6_, rfl, hG, H0_, H1_, H2_, H3_, H4_, H5_, H6_, H7_, H8_, H9_, H10_, H11_, H12_, H13_, H14_, H15_, H16_, H17_, H18_, H19_, H20_, D19_20⟩
      have d19_20 := D19_20 rfl rfl
      obtain rfl := H0_ rfl
      obtain rfl := H1_ rfl
      obtain rfl := H2_ rfl
      obtain rfl := H3_ rfl
      obtain rfl := H4_ rfl
      obtain rfl := H5_ rfl
      obtain rfl := H6_ rfl
      obtain rfl := H7_ rfl
      obtain rfl := H8_ rfl
      obtain rfl := H9_ rfl
      obtain rfl := H10_ rfl
      obtain rfl := H11_ rfl
      obtain rfl := H12_ rfl
      obtain rfl := H13_ rfl
      obtain rfl := H14_ rfl
      obtain rfl := H15_ rfl
      obtain rfl := H16_ rfl
      obtain rfl := H17_ rfl
      obtain rfl := H18_ rfl
      obtain ⟨g5, rfl, b5, lb5⟩ := H19_ rfl
      replace b5 := BoxS.on b5 rfl
      obtain ⟨g6, rfl, b6, lb6⟩ := H20_ rfl
      clear D19_20
      subst hA
      (try simp only [Act.put, List.setIfInBounds_toArray, List.set_cons_zero, List.set_cons_succ])
      have hne : g5 ≠ g6 := fun h => d19_20 (by rw [h])
      clear d19_20 f0 f1 f2 f3 f4 f5 d0 d1 d2 d3 d4 d5 cB w1 w2 w3
      replace b4 := b4.below hG
      have z0 := b6.cell 0 _ rfl
      have q0 := b6.frozen 0
      have z1 := b6.cell 1 _ rfl
      have q1 := b6.frozen 1
      have z2 := b6.cell 2 _ rfl
      have q2 := b6.frozen 2
      have z3 := b6.cell 3 _ rfl
      have q3 := b6.frozen 3
      have z4 := b6.cell 4 _ rfl
      have q4 := b6.frozen 4
      have z5 := b6.cell 5 _ rfl
      have q5 := b6.frozen 5
      refine wpAnyIn_ready (rs := [22]) (by kernel_rfl) (by simp) (AllReadyIn.cons (o := _) rfl (fun K hK => ?_) AllReadyIn.nil)
      go_simp
      refine hK _ _ ?_
      clear hK K z0 z1 z2 z3 z4 z5 q0 q1 q2 q3 q4 q5
      (try simp only [Act.put, List.setIfInBounds_toArray, List.set_cons_zero, List.set_cons_succ])
      have hg := only_store6 wx g6 (.bool b.s0) (.slice b.A0 b.n0 b.c0) (.slice b.D0 b.m0 b.e0) (.bool b.s1) (.slice b.A1 b.n1 b.c1) (.slice b.D1 b.m1 b.e1)
      have hB := b6.stored6 (.bool b.s0) (.slice b.A0 b.n0 b.c0) (.slice b.D0 b.m0 b.e0) (.bool b.s1) (.slice b.A1 b.n1 b.c1) (.slice b.D1 b.m1 b.e1)
      generalize hX : ((((((wx.setCell ⟨g6, 0, none⟩ (.bool b.s0)).setCell ⟨g6, 1, none⟩ (.slice b.A0 b.n0 b.c0)).setCell ⟨g6, 2, none⟩ (.slice b.D0 b.m0 b.e0)).setCell ⟨g6, 3, none⟩ (.bool b.s1)).setCell ⟨g6, 4, none⟩ (.slice b.A1 b.n1 b.c1)).setCell ⟨g6, 5, none⟩ (.slice b.D1 b.m1 b.e1)) = Xb6 at hg hB ⊢
      clear hX
      replace b5 := b5.other hg hne
      replace b4 := b4.other hg (by omega)
      replace hG := below_only hG hg (by omega) hG.size
      replace b6 := hB
      clear hg hB
      refine wpAnyIn_done (by kernel_rfl) ?_ _
      obtain ⟨fn, tmps, assign, body, hy, hR⟩ := hY ys ⟨(p, a, b), k, hlt, he.symm⟩ Xb6 (hJ _ W1 Xb6 none hJ1 (grown_below hG) (fun r e => by cases e)) (by omega)
      dsimp only [encC] at hy
      clear hY hJ1
      have x0 := b5.cell 0 _ rfl
      have y0 := b4.cell 0 _ rfl
      have z0 := b6.cell 0 _ rfl
      have x1 := b5.cell 1 _ rfl
      have y1 := b4.cell 1 _ rfl
      have z1 := b6.cell 1 _ rfl
      have x2 := b5.cell 2 _ rfl
      have y2 := b4.cell 2 _ rfl
      have z2 := b6.cell 2 _ rfl
      have x3 := b5.cell 3 _ rfl
      have y3 := b4.cell 3 _ rfl
      have z3 := b6.cell 3 _ rfl
      have x4 := b5.cell 4 _ rfl
      have y4 := b4.cell 4 _ rfl
      have z4 := b6.cell 4 _ rfl
      have x5 := b5.cell 5 _ rfl
      have y5 := b4.cell 5 _ rfl
      have z5 := b6.cell 5 _ rfl
      gi_wp2
      clear x0 y0 z0 x1 y1 z1 x2 y2 z2 x3 y3 z3 x4 y4 z4 x5 y5 z5
      refine hR.mono ?_
      rintro e W3 (⟨rfl, hJ3, hk3⟩ | ⟨rfl, hJx3⟩)
      · gi_wp2
        go_roundw
        case rel => exact ⟨k + 1, ys ++ [⟨(p, a, b), k, hlt, he.symm⟩], by omega, by go_num, by rw [List.length_append, hyl]; rfl, snoc_corn hys he.symm, hJ3, (hn1.trans (hG.mono hn1.size)).trans hk3, by have := hk3.size; have := hG.size; omega⟩
        case measure => simp [intOf]; omega
      · gi_wp2
        refine bodyPost_ret (results_none rfl _ _ _) rfl ?_
        exact ⟨⟨_, rfl⟩, .inr ⟨_, trivial, hJx3⟩⟩
    · obtain rfl : k = zs.length := by omega
      gi_wp2
      go_end0
      exact ⟨⟨_, rfl⟩, .inl ⟨_, hys, hJs⟩⟩
end
end Go.Proofs.YthmmnmajkeoaaabGreatDoor
