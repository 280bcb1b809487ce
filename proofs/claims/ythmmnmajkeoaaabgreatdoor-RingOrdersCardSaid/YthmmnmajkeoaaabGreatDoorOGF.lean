/-
  RgF, RgG, RgH, RgI in one text.
-/
import Derived.Test.YthmmnmajkeoaaabGreatDoorOGB
import Derived.Test.YthmmnmajkeoaaabGreatDoorORgO
import Derived.Lib.AppendZeros
import Derived.IntWalk
namespace Go.Proofs.YthmmnmajkeoaaabGreatDoor
open Go.RowKit
section
variable {w : World} {L : Nat}
/-- A sentinel error in its variable. -/
def SentV (w : World) (g : Nat) (a : Addr) : Prop := w.cell? ⟨g, 0, none⟩ = some (.iface 186 (.pointer (some a)))
theorem SentV.below {w' : World} {g : Nat} {a : Addr} (h : SentV w g a) (hb : Below w.heap.size w w') : SentV w' g a := (hb.cell (World.block_lt_of_cell? w _ h)).trans h
set_option maxRecDepth 100000 in
set_option maxHeartbeats 2000000 in
theorem check_shut {A : Option Addr} {n c : Nat} {a : Addr} {zs : List PP} (hS : ReadR w 6 (.slice A n c) (rowsP zs)) (hF : FN w L zs) (hlen : zs.length ≤ 4096) (hL : L ≤ 100000) (hst : stopsB zs = false) (hop : opensB zs = false) (hE : SentV w 0 a) :
    Calls Tryz.prog 24 #[.slice A n c] w fun e w' => e = .returned (.iface 186 (.pointer (some a))) ∧ Below w.heap.size w w' := by
  obtain rfl := pp_len hS
  have hd : decide ((4096 : Int) < (zs.length : Int)) = false := decide_eq_false (by omega)
  go_enter Tryz.func24, Tryz.ntmps24
  go_wp2_with fail
  refine (contf_v hS hF (by omega) (by omega)).mono ?_
  rintro e w1 ⟨rfl, hb⟩
  replace hS := hS.below hb
  replace hF := hF.below hb
  replace hE := hE.below hb
  go_wp2_with fail
  refine (stops_v hS hF (by omega) hL).mono ?_
  rintro e w2 ⟨rfl, hb2⟩
  replace hS := hS.below hb2
  replace hF := hF.below hb2
  replace hE := hE.below hb2
  rw [hst]
  go_wp2_with fail
  refine (opens_v hS hF (by omega) hL).mono ?_
  rintro e w3 ⟨rfl, hb3⟩
  replace hE := hE.below hb3
  unfold SentV at hE
  rw [hop]
  go_wp2_with fail
  go_ret
  exact ⟨rfl, (hb.trans (hb2.mono hb.size)).trans (hb3.mono (hb.trans (hb2.mono hb.size)).size)⟩
set_option maxRecDepth 100000 in
set_option maxHeartbeats 2000000 in
theorem check_ok {A : Option Addr} {n c : Nat} {zs : List PP} (hS : ReadR w 6 (.slice A n c) (rowsP zs)) (hF : FN w L zs) (hlen : zs.length ≤ 4096) (hL : L ≤ 100000) (hst : stopsB zs = false) (hop : opensB zs = true) :
    Calls Tryz.prog 24 #[.slice A n c] w fun e w' => e = .returned .nilIface ∧ Below w.heap.size w w' := by
  obtain rfl := pp_len hS
  have hd : decide ((4096 : Int) < (zs.length : Int)) = false := decide_eq_false (by omega)
  go_enter Tryz.func24, Tryz.ntmps24
  go_wp2_with fail
  refine (contf_v hS hF (by omega) (by omega)).mono ?_
  rintro e w1 ⟨rfl, hb⟩
  replace hS := hS.below hb
  replace hF := hF.below hb
  go_wp2_with fail
  refine (stops_v hS hF (by omega) hL).mono ?_
  rintro e w2 ⟨rfl, hb2⟩
  replace hS := hS.below hb2
  replace hF := hF.below hb2
  rw [hst]
  go_wp2_with fail
  refine (opens_v hS hF (by omega) hL).mono ?_
  rintro e w3 ⟨rfl, hb3⟩
  rw [hop]
  go_wp2_with fail
  go_ret
  exact ⟨rfl, (hb.trans (hb2.mono hb.size)).trans (hb3.mono (hb.trans (hb2.mono hb.size)).size)⟩
end
end Go.Proofs.YthmmnmajkeoaaabGreatDoor
namespace Go.Proofs.YthmmnmajkeoaaabGreatDoor
open Go.RowKit
section
variable {w : World} {L : Nat}
theorem zero_notInt {z : Array Value} (h : z.all notInt = true) (hz : 0 < z.size) (n : Nat) : (Builtin.zeroCells z n).all notInt = true := by
  have hzn' := Array.all_eq_true_iff_forall_mem.1 h
  rw [Array.all_eq_true_iff_forall_mem]
  intro u hu
  unfold Builtin.zeroCells at hu
  rw [Array.mem_map] at hu
  obtain ⟨j, hj, rfl⟩ := hu
  have hlt : j % z.size < z.size := Nat.mod_lt _ hz
  rw [getElem!_pos z _ hlt]
  exact hzn' _ (Array.getElem_mem hlt)
theorem grown_own {e : TypeId} {k n : Nat} {z : Array Value} (hz : z.size = k) (hn : z.all notInt = true) (hk : 0 < k) (hm : n ≤ maxLen) (w : World) :
    OwnE (w.drew.alloc (.cells (Builtin.zeroCells z n ++ Builtin.zeroCells z (grownCap w n 0 e - n)) e)) w.heap.size e k (.slice (some ⟨w.heap.size, 0, none⟩) 0 (grownCap w n 0 e)) [] := by
  have h1 := grownCap_ge w n 0 e
  refine ⟨fun cs h => (by cases h), ⟨by simp, .inr ⟨w.heap.size, _, _, rfl, Nat.le_refl _, heap_alloc_new w.drew _, Nat.zero_le _, grownCap_le_maxLen w n 0 e hm, ?_, by simp⟩⟩, ?_⟩
  · rw [Array.size_append, size_zeroCells, size_zeroCells, hz, ← Nat.add_mul]; congr 1; omega
  · intro g hg
    injection hg with hg
    subst hg
    refine ⟨_, _, heap_alloc_new w.drew _, ?_⟩
    rw [Array.all_append, zero_notInt hn (by omega), zero_notInt hn (by omega)]; rfl
set_option maxRecDepth 100000 in
set_option maxHeartbeats 2000000 in
theorem grow_v (n : Nat) (h0 : 0 < n) (hn : n ≤ 90000) (w : World) :
    Calls Tryz.prog 48 #[.slice none 0 0, .int .i64 (n : Int)] w fun e w' => ∃ A' c', e = .returned (.slice A' 0 c') ∧ OwnE w' w.heap.size 65 6 (.slice A' 0 c') [] ∧ Below w.heap.size w w' := by
  obtain ⟨ht, hk, i, z, hi, hz, hs, hby, hzs, hzn⟩ := elem_ring
  have htn : Tryz.prog.underlying 3 = some (.int .i64) := Tryz.underlying3
  have d0 : decide ((n : Int) < 0) = false := decide_eq_false (by omega)
  have d1 : decide ((0 : Int) < (n : Int)) = true := decide_eq_true (by omega)
  have w1 : IntKind.i64.wrap (n : Int) = n := IntWalk.i64_in _ (by omega)
  have hb : n * i.bytes ≤ 281474976710656 := by have h := Nat.mul_le_mul hn hby; omega
  have hrun := Lib.run_append_nil_zeros (P := Tryz.prog) w 30 3 30 65 i z .i64 .i64 ht htn hi hz n h0 (by omega) (by omega) hb
  have hO := grown_own (e := 65) hzs hzn hk (show n ≤ maxLen by unfold maxLen; omega) w
  have hG := grownCap_ge w n 0 65
  have hB : Below w.heap.size w (w.drew.alloc (.cells (Builtin.zeroCells z.cells n ++ Builtin.zeroCells z.cells (grownCap w n 0 65 - n)) 65)) := (drawn_below w).trans ((Below.refl _ _).alloc (drawn_below w).size _)
  generalize grownCap w n 0 65 = cap at hrun hO hG hB
  generalize hW : w.drew.alloc (.cells (Builtin.zeroCells z.cells n ++ Builtin.zeroCells z.cells (cap - n)) 65) = W at hrun hO hB
  clear hW
  go_enter Tryz.func48, Tryz.ntmps48
  go_wp2_with (at_builtin; refine Lib.wpList_append_run _ rfl _ _ _ _ rfl _ _ rfl rfl _ _ hrun ?_)
  go_returns
  exact ⟨_, _, rfl, hO, hB⟩
set_option maxRecDepth 100000 in
set_option maxHeartbeats 4000000 in
theorem concat2_v {g : Nat} {A A' : Option Addr} {n c n' c' : Nat} {zs ys : List PP} (c0 : w.cell? ⟨g, 0, none⟩ = some (.slice A n c)) (c1 : w.cell? ⟨g, 1, none⟩ = some (.slice A' n' c')) (hS : ReadR w 6 (.slice A n c) (rowsP zs)) (hS' : ReadR w 6 (.slice A' n' c') (rowsP ys)) (h0 : 0 < zs.length) (hl : zs.length ≤ 40000) (hl' : ys.length ≤ 40000) :
    Calls Tryz.prog 27 #[.slice (some ⟨g, 0, none⟩) 2 2] w fun e w' => ∃ A1 c1, e = .returned (.slice A1 (zs ++ ys).length c1) ∧ ReadR w' 6 (.slice A1 (zs ++ ys).length c1) (rowsP (zs ++ ys)) ∧ Below w.heap.size w w' := by
  obtain rfl := pp_len hS
  obtain rfl := pp_len hS'
  have q1 : IntKind.i64.wrap (zs.length : Int) = zs.length := IntWalk.i64_in _ (by omega)
  have q2 : IntKind.i64.wrap ((zs.length : Int) + (ys.length : Int)) = (zs.length : Int) + (ys.length : Int) := IntWalk.i64_in _ (by omega)
  have q3 : decide ((zs.length : Int) < 0) = false := decide_eq_false (by omega)
  have q4 : decide ((zs.length : Int) + (ys.length : Int) < 0) = false := decide_eq_false (by omega)
  go_enter Tryz.func27, Tryz.ntmps27
  go_wp2_with fail
  go_loopw [3, 11] (fun t3 t11 wr => wr = w ∧ ((t11 = .int .i64 0 ∧ t3 = .int .i64 0) ∨ (t11 = .int .i64 1 ∧ t3 = .int .i64 (zs.length : Int)) ∨ (t11 = .int .i64 2 ∧ t3 = .int .i64 ((zs.length : Int) + (ys.length : Int))))) (fun _ t11 _ => 2 - (intOf t11).toNat)
  case atStart => exact ⟨rfl, .inl ⟨rfl, rfl⟩⟩
  case round =>
    obtain ⟨rfl, ⟨rfl, rfl⟩ | ⟨rfl, rfl⟩ | ⟨rfl, rfl⟩⟩ := hrel
    · go_wp2_with fail
      go_roundw
      case rel => exact ⟨trivial, .inr (.inl ⟨by go_num, by go_num⟩)⟩
      case measure => simp [intOf]
    · go_wp2_with fail
      go_roundw
      case rel => exact ⟨trivial, .inr (.inr ⟨by go_num, by go_num⟩)⟩
      case measure => simp [intOf]
    · rw [← Int.natCast_add]
      go_wp2_with fail
      refine (grow_v (zs.length + ys.length) (by omega) (by omega) _).mono ?_
      rintro e w1 ⟨A2, c2, rfl, hown, hb⟩
      go_wp2_with fail
      go_loopw [6, 27] (fun t6 t27 wz => Below wr.heap.size wr wz ∧ ∃ A6 m6 c6 xs, t6 = .slice A6 m6 c6 ∧ OwnE wz wr.heap.size 65 6 (.slice A6 m6 c6) (rowsP xs) ∧ ((t27 = .int .i64 0 ∧ xs = []) ∨ (t27 = .int .i64 1 ∧ xs = zs) ∨ (t27 = .int .i64 2 ∧ xs = zs ++ ys))) (fun _ t27 _ => 2 - (intOf t27).toNat)
      case atStart => exact ⟨hb, _, _, _, [], rfl, hown, .inl ⟨rfl, rfl⟩⟩
      case round =>
        clear hb hown
        obtain ⟨H0, A6, m6, c6, xs, rfl, hown, ⟨rfl, rfl⟩ | ⟨rfl, rfl⟩ | ⟨rfl, rfl⟩⟩ := hrel
        · have hT := hS.below H0
          have d0 := (H0.cell (World.block_lt_of_cell? _ _ c0)).trans c0
          have d1 := (H0.cell (World.block_lt_of_cell? _ _ c1)).trans c1
          have ln : (rowsP []).length + (rowsP zs).length ≤ 200000 := by simp [rowsP_len]; try omega
          have lB := H0.size
          go_wp2_with (at_builtin; refine wpList_append_rows rfl _ _ rfl elem_ring _ rfl hown rfl hT (rowsP_cells zs) ln lB ?_; intro v1 w3 hown1 hg1)
          obtain ⟨A1_, c1_, rfl, hx1, hx2⟩ := hown1.form
          clear hx1 hx2
          have H01 := H0.trans (hown.trod hg1 lB)
          clear hown hT ln lB hg1 H0 d0 d1
          go_wp2_with fail
          go_roundw
          case rel => exact ⟨H01, _, _, _, _, rfl, (show OwnE _ _ _ _ _ (rowsP zs) from hown1), .inr (.inl ⟨by go_num, rfl⟩)⟩
          case measure => simp [intOf]
        · have hT := hS'.below H0
          have d0 := (H0.cell (World.block_lt_of_cell? _ _ c0)).trans c0
          have d1 := (H0.cell (World.block_lt_of_cell? _ _ c1)).trans c1
          have ln : (rowsP xs).length + (rowsP ys).length ≤ 200000 := by simp [rowsP_len]; try omega
          have lB := H0.size
          go_wp2_with (at_builtin; refine wpList_append_rows rfl _ _ rfl elem_ring _ rfl hown rfl hT (rowsP_cells ys) ln lB ?_; intro v1 w3 hown1 hg1)
          obtain ⟨A1_, c1_, rfl, hx1, hx2⟩ := hown1.form
          clear hx1 hx2
          have H01 := H0.trans (hown.trod hg1 lB)
          clear hown hT ln lB hg1 H0 d0 d1
          go_wp2_with fail
          go_roundw
          case rel => exact ⟨H01, _, _, _, _, rfl, (by unfold rowsP at hown1 ⊢; rw [List.map_append]; exact hown1), .inr (.inr ⟨by go_num, rfl⟩)⟩
          case measure => simp [intOf]
        · obtain ⟨A9, c9, e9, _, _⟩ := hown.form
          rw [rowsP_len] at e9
          injection e9 with e1 e2 e3
          subst e1 e2 e3
          go_wp2_with fail
          go_ret
          exact ⟨_, _, rfl, hown.read, H0⟩
end
end Go.Proofs.YthmmnmajkeoaaabGreatDoor
namespace Go.Proofs.YthmmnmajkeoaaabGreatDoor
open Go.RowKit
/-- The sum of the cross products of the steps of a path. -/
def sw : List (Rat × Rat) → Rat
  | a :: b :: l => (a.1 * b.2 - a.2 * b.1) + sw (b :: l)
  | _ => 0
theorem sw_cut : ∀ (h : Nat) (l : List (Rat × Rat)), h + 1 ≤ l.length → sw (l.take (h + 1)) + sw (l.drop h) = sw l
  | 0, [], hl => by cases hl
  | 0, [a], _ => by simp [sw]; exact Rat.add_zero 0
  | 0, a :: b :: l, _ => by simp [sw]; grind
  | h + 1, [], hl => by cases hl
  | h + 1, [a], hl => by simp at hl
  | h + 1, a :: b :: l, hl => by
    have ih := sw_cut h (b :: l) (by simp at hl ⊢; omega)
    have e : (a :: b :: l).take (h + 1 + 1) = a :: b :: (l.take h) := by simp
    have e2 : (b :: l).take (h + 1) = b :: l.take h := by simp
    rw [e, List.drop_succ_cons]
    rw [e2] at ih
    simp only [sw] at ih ⊢
    grind
section
variable {w : World} {L : Nat}
theorem CellF.far {w' : World} {p : Addr} {v : Value} {g : Nat} (h : CellF w p v) (hg : w.grownBy w' (some g)) (hne : p.block ≠ g) : CellF w' p v :=
  (World.cell?_of_block (a := p) (hg.block p.block (World.block_lt_of_cell? w _ h) (fun he => by injection he with he; exact hne he))).trans h
theorem part_pp {g o n c : Nat} {zs : List PP} (hS : ReadR w 6 (.slice (some ⟨g, o, none⟩) n c) (rowsP zs)) {i j : Nat} (hij : i ≤ j) (hj : j ≤ n) : ReadR w 6 (.slice (some ⟨g, o + i * 6, none⟩) (j - i) (c - i)) (rowsP ((zs.take j).drop i)) := by
  have hn : n ≤ c := by obtain ⟨_, _, _, e1, h1, _⟩ := hS; injection e1 with _ e2 e3; omega
  have h := hS.part hij hj (m := c) (by omega) (Nat.le_refl _)
  simp only [Option.map_some, Addr.add_lit] at h
  unfold rowsP at h ⊢
  rw [List.map_drop, List.map_take]
  exact h
end
section
variable {s6 : Bool} {A6 D6 : Option Addr} {n6 c6 m6 e6 : Nat} {w : World} {L : Nat}
set_option maxRecDepth 100000 in
set_option maxHeartbeats 4000000 in
theorem swept_two {A : Option Addr} {c : Nat} {zs : List PP} (hS : ReadR w 6 (.slice A 2 c) (rowsP zs)) (hF : FN w L zs) (hn : zs.length = 2) (hL : L ≤ 1000) :
    Calls Tryz.prog 51 #[.slice A 2 c] w fun e w' => ∃ s6 A6 n6 c6 D6 m6 e6, e = .returned (.agg #[.bool s6, .slice A6 n6 c6, .slice D6 m6 e6]) ∧ NQ w' s6 (.slice A6 n6 c6) (.slice D6 m6 e6) (sw (zs.map PP.pt)) (8 * max L 2 + 10) ∧ Below w.heap.size w w' := by
  obtain ⟨a, b, rfl⟩ : ∃ a b, zs = [a, b] := by match zs, hn with | [a, b], _ => exact ⟨a, b, rfl⟩
  obtain ⟨g, o, rfl, e0, e1, e2, e3, e4, e5⟩ := pp_elem (i := 0) hS rfl
  obtain ⟨g', o', hA2, f0, f1, f2, f3, f4, f5⟩ := pp_elem (i := 1) hS rfl
  injection hA2 with hA2
  injection hA2 with hg1 hg2
  subst hg1 hg2
  simp only [Nat.zero_mul, Nat.add_zero, Nat.one_mul] at e0 e1 e2 e3 e4 e5 f0 f1 f2 f3 f4 f5
  obtain ⟨p0, p1⟩ := hF a (by simp)
  obtain ⟨q0, q1⟩ := hF b (by simp)
  clear hS hF
  have hgl : g < w.heap.size := World.block_lt_of_cell? w _ e0
  go_enter Tryz.func51, Tryz.ntmps51
  go_wp2_with fail
  obtain ⟨W0, hW, b2, hbW, hszW0⟩ := boxes1 w #[.bool false, .slice none 0 0, .slice none 0 0] 63
  rw [hW]
  clear hW
  replace p0 := p0.below hbW
  replace p1 := p1.below hbW
  replace q0 := q0.below hbW
  replace q1 := q1.below hbW
  have H0 := hbW
  clear hbW
  replace e0 := e0.below H0
  replace e1 := e1.below H0
  replace e2 := e2.below H0
  replace e3 := e3.below H0
  replace e4 := e4.below H0
  replace e5 := e5.below H0
  replace f0 := f0.below H0
  replace f1 := f1.below H0
  replace f2 := f2.below H0
  replace f3 := f3.below H0
  replace f4 := f4.below H0
  replace f5 := f5.below H0
  go_wp2_with fail
  have hD := drawn_below W0
  replace p0 := p0.below hD
  replace p1 := p1.below hD
  replace q0 := q0.below hD
  replace q1 := q1.below hD
  replace e0 := e0.below hD
  replace e1 := e1.below hD
  replace e2 := e2.below hD
  replace e3 := e3.below hD
  replace e4 := e4.below hD
  replace e5 := e5.below hD
  replace f0 := f0.below hD
  replace f1 := f1.below hD
  replace f2 := f2.below hD
  replace f3 := f3.below hD
  replace f4 := f4.below hD
  replace f5 := f5.below hD
  replace b2 := b2.below hD
  replace H0 := H0.trans (hD.mono H0.size)
  clear hD
  refine wp_region_noPanic ?_
  refine wp_region_held_drew (S := (fun V => V.cell? ⟨g, o, none⟩ = some (.bool a.s0) ∧ V.cell? ⟨g, o + 1, none⟩ = some (.slice a.A0 a.n0 a.c0) ∧ V.cell? ⟨g, o + 2, none⟩ = some (.slice a.D0 a.m0 a.e0) ∧ V.cell? ⟨g, o + 3, none⟩ = some (.bool a.s1) ∧ V.cell? ⟨g, o + 4, none⟩ = some (.slice a.A1 a.n1 a.c1) ∧ V.cell? ⟨g, o + 5, none⟩ = some (.slice a.D1 a.m1 a.e1) ∧ V.cell? ⟨g, o + 6, none⟩ = some (.bool b.s0) ∧ V.cell? ⟨g, o + 6 + 1, none⟩ = some (.slice b.A0 b.n0 b.c0) ∧ V.cell? ⟨g, o + 6 + 2, none⟩ = some (.slice b.D0 b.m0 b.e0) ∧ V.cell? ⟨g, o + 6 + 3, none⟩ = some (.bool b.s1) ∧ V.cell? ⟨g, o + 6 + 4, none⟩ = some (.slice b.A1 b.n1 b.c1) ∧ V.cell? ⟨g, o + 6 + 5, none⟩ = some (.slice b.D1 b.m1 b.e1))) (by kernel_rfl) ⟨e0.eq, e1.eq, e2.eq, e3.eq, e4.eq, e5.eq, f0.eq, f1.eq, f2.eq, f3.eq, f4.eq, f5.eq⟩ (fun hHeld => ?_)
  generalize W0.drew = v1 at H0 hHeld p0 p1 q0 q1 e0 e1 e2 e3 e4 e5 f0 f1 f2 f3 f4 f5 b2 ⊢
  refine wpAnyH_take (i := 0) (v := ?_) rfl (by kernel_rfl) (by kernel_rfl) (by kernel_rfl) (fun _ _ _ h => h) (Or.inl ⟨by rfl, ?_⟩) (by assumption) ?_
  rotate_left
  · (intro w hSw; (try dsimp only at hSw); go_simp; (try with_reducible rfl))
  (try simp only [List.getElem_toArray, List.getElem_cons_zero, Act.put, List.setIfInBounds_toArray, List.set_cons_zero, List.set_cons_succ])
  refine wpAnyH_take (i := 3) (v := ?_) rfl (by kernel_rfl) (by kernel_rfl) (by kernel_rfl) (fun _ _ _ h => h) (Or.inl ⟨by rfl, ?_⟩) (by assumption) ?_
  rotate_left
  · (intro w hSw; (try dsimp only at hSw); go_simp; (try with_reducible rfl))
  (try simp only [List.getElem_toArray, List.getElem_cons_succ, List.getElem_cons_zero, Act.put, List.setIfInBounds_toArray, List.set_cons_zero, List.set_cons_succ])
  refine wpAnyH_take (i := 1) (v := ?_) rfl (by kernel_rfl) (by kernel_rfl) (by kernel_rfl) (fun _ _ _ h => h) (Or.inl ⟨by rfl, ?_⟩) (by assumption) ?_
  rotate_left
  · (intro w hSw; (try dsimp only at hSw); go_simp; (try with_reducible rfl))
  (try simp only [List.getElem_toArray, List.getElem_cons_succ, List.getElem_cons_zero, Act.put, List.setIfInBounds_toArray, List.set_cons_zero, List.set_cons_succ])
  refine wpAnyH_take (i := 4) (v := ?_) rfl (by kernel_rfl) (by kernel_rfl) (by kernel_rfl) (fun _ _ _ h => h) (Or.inl ⟨by rfl, ?_⟩) (by assumption) ?_
  rotate_left
  · (intro w hSw; (try dsimp only at hSw); go_simp; (try with_reducible rfl))
  (try simp only [List.getElem_toArray, List.getElem_cons_succ, List.getElem_cons_zero, Act.put, List.setIfInBounds_toArray, List.set_cons_zero, List.set_cons_succ])
  refine wpAnyH_take (i := 2) (v := ?_) rfl (by kernel_rfl) (by kernel_rfl) (by kernel_rfl) (fun _ _ _ h => h) (Or.inl ⟨by rfl, ?_⟩) (by assumption) ?_
  rotate_left
  · (intro w hSw; (try dsimp only at hSw); go_simp; (try with_reducible rfl))
  (try simp only [List.getElem_toArray, List.getElem_cons_succ, List.getElem_cons_zero, Act.put, List.setIfInBounds_toArray, List.set_cons_zero, List.set_cons_succ])
  refine wpAnyH_take (i := 5) (v := ?_) rfl (by kernel_rfl) (by kernel_rfl) (by kernel_rfl) (fun _ _ _ h => h) (Or.inl ⟨by rfl, ?_⟩) (by assumption) ?_
  rotate_left
  · (intro w hSw; (try dsimp only at hSw); go_simp; (try with_reducible rfl))
  (try simp only [List.getElem_toArray, List.getElem_cons_succ, List.getElem_cons_zero, Act.put, List.setIfInBounds_toArray, List.set_cons_zero, List.set_cons_succ])
  refine wpAnyH_ready (rs := [6]) (by kernel_rfl) (by simp) (AllReadyH.cons (o := _) rfl (fun K hK => ?_) AllReadyH.nil)
  go_simp
  go_at_call 80
  refine (pcross_v p0.rq p1.rq q0.rq q1.rq (by omega) (by omega)).mono ?_
  rintro e w2 ⟨s6, A6, n6, c6, D6, m6, e6, rfl, g2, hb⟩
  replace p0 := p0.below hb
  replace p1 := p1.below hb
  replace q0 := q0.below hb
  replace q1 := q1.below hb
  replace e0 := e0.below hb
  replace e1 := e1.below hb
  replace e2 := e2.below hb
  replace e3 := e3.below hb
  replace e4 := e4.below hb
  replace e5 := e5.below hb
  replace f0 := f0.below hb
  replace f1 := f1.below hb
  replace f2 := f2.below hb
  replace f3 := f3.below hb
  replace f4 := f4.below hb
  replace f5 := f5.below hb
  replace b2 := b2.below hb
  replace H0 := H0.trans (hb.mono H0.size)
  clear hb
  clear p0
  clear p1
  clear q0
  clear q1
  go_wp2_with fail
  refine hK.out _ _ ⟨e0.eq, e1.eq, e2.eq, e3.eq, e4.eq, e5.eq, f0.eq, f1.eq, f2.eq, f3.eq, f4.eq, f5.eq⟩ (fun hHeld => ?_)
  clear hK K
  (try simp only [List.getElem_toArray, List.getElem_cons_succ, List.getElem_cons_zero, Act.put, List.setIfInBounds_toArray, List.set_cons_zero, List.set_cons_succ])
  have cb20 := b2.cell 0 _ rfl
  have yb20 := b2.frozen 0
  have cb21 := b2.cell 1 _ rfl
  have yb21 := b2.frozen 1
  have cb22 := b2.cell 2 _ rfl
  have yb22 := b2.frozen 2
  refine wpAnyH_ready (rs := [7]) (by kernel_rfl) (by simp) (AllReadyH.cons (o := _) rfl (fun K hK => ?_) AllReadyH.nil)
  go_simp
  clear cb20 yb20 cb21 yb21 cb22 yb22
  have hg := only_store3 w2 (w.heap.size) (.bool s6) (.slice A6 n6 c6) (.slice D6 m6 e6)
  have hB := b2.stored3 (.bool s6) (.slice A6 n6 c6) (.slice D6 m6 e6)
  generalize hX : (((w2.setCell ⟨w.heap.size, 0, none⟩ (.bool s6)).setCell ⟨w.heap.size, 1, none⟩ (.slice A6 n6 c6)).setCell ⟨w.heap.size, 2, none⟩ (.slice D6 m6 e6)) = X3 at hg hB ⊢
  clear hX
  replace e0 := CellF.far e0 hg (show g ≠ _ by omega)
  replace e1 := CellF.far e1 hg (show g ≠ _ by omega)
  replace e2 := CellF.far e2 hg (show g ≠ _ by omega)
  replace e3 := CellF.far e3 hg (show g ≠ _ by omega)
  replace e4 := CellF.far e4 hg (show g ≠ _ by omega)
  replace e5 := CellF.far e5 hg (show g ≠ _ by omega)
  replace f0 := CellF.far f0 hg (show g ≠ _ by omega)
  replace f1 := CellF.far f1 hg (show g ≠ _ by omega)
  replace f2 := CellF.far f2 hg (show g ≠ _ by omega)
  replace f3 := CellF.far f3 hg (show g ≠ _ by omega)
  replace f4 := CellF.far f4 hg (show g ≠ _ by omega)
  replace f5 := CellF.far f5 hg (show g ≠ _ by omega)
  replace g2 := g2.kept b2 (by simp [notInt]) hg
  replace b2 := hB
  replace H0 := below_only H0 hg (by omega) H0.size
  clear hg hB
  refine hK.out _ _ ⟨e0.eq, e1.eq, e2.eq, e3.eq, e4.eq, e5.eq, f0.eq, f1.eq, f2.eq, f3.eq, f4.eq, f5.eq⟩ (fun hHeld => ?_)
  clear hK K
  (try simp only [List.getElem_toArray, List.getElem_cons_succ, List.getElem_cons_zero, Act.put, List.setIfInBounds_toArray, List.set_cons_zero, List.set_cons_succ])
  refine wpAnyH_done (by kernel_rfl) ?_ _
  refine NoPanic.normal ?_
  go_wp2_with fail
  refine bodyPost_ret (ret_rat rfl rfl b2) rfl ?_
  exact ⟨_, _, _, _, _, _, _, rfl, (show NQ _ _ _ _ (sw _) _ by simp only [List.map_cons, List.map_nil, sw, PP.pt, Rat.add_zero]; exact g2.more (by omega)), H0⟩
variable {s7 s8 : Bool} {A7 D7 A8 D8 : Option Addr} {n7 c7 m7 e7 n8 c8 m8 e8 : Nat}
set_option maxRecDepth 100000 in
set_option maxHeartbeats 4000000 in
theorem swept_more (hL : L ≤ 100) {A : Option Addr} {n c : Nat} {zs : List PP} (hS : ReadR w 6 (.slice A n c) (rowsP zs)) (hF : FN w L zs) (hz : zs.length = n) (h3 : 3 ≤ n) (h20 : n ≤ 20) (ih : ∀ (m : Nat), m < n → 2 ≤ m → m ≤ 20 → ∀ {w : World} {A : Option Addr} {c : Nat} {zs : List PP}, zs.length = m → ReadR w 6 (.slice A m c) (rowsP zs) → FN w L zs → Calls Tryz.prog 51 #[.slice A m c] w fun e w' => ∃ s6 A6 n6 c6 D6 m6 e6, e = .returned (.agg #[.bool s6, .slice A6 n6 c6, .slice D6 m6 e6]) ∧ NQ w' s6 (.slice A6 n6 c6) (.slice D6 m6 e6) (sw (zs.map PP.pt)) ((m - 1) * (8 * max L 2 + 11) - 1) ∧ Below w.heap.size w w') :
    Calls Tryz.prog 51 #[.slice A n c] w fun e w' => ∃ s6 A6 n6 c6 D6 m6 e6, e = .returned (.agg #[.bool s6, .slice A6 n6 c6, .slice D6 m6 e6]) ∧ NQ w' s6 (.slice A6 n6 c6) (.slice D6 m6 e6) (sw (zs.map PP.pt)) ((n - 1) * (8 * max L 2 + 11) - 1) ∧ Below w.heap.size w w' := by
  obtain ⟨g, o, rfl, e0, _⟩ := pp_elem (i := 0) (x := zs.getD 0 default) hS (get_ok (by omega))
  clear e0
  obtain ⟨h, hh⟩ : ∃ h, n / 2 = h := ⟨_, rfl⟩
  have hq : (n : Int).tdiv 2 = (h : Int) := by rw [Int.tdiv_eq_ediv_of_nonneg (by omega)]; omega
  obtain ⟨j, hj⟩ : ∃ j, h + 1 = j := ⟨_, rfl⟩
  have w1 : IntKind.i64.wrap ((h : Int) + 1) = (j : Int) := by rw [IntWalk.i64_in _ (by omega), ← hj]; rfl
  have hc0 : n ≤ c := by obtain ⟨_, _, _, e1, h1, _⟩ := hS; injection e1 with _ e2 e3; omega
  have hjc : j ≤ c := by omega
  have hle : h ≤ n := by omega
  have hne : ¬ c = h := by omega
  have hh1 : 1 ≤ h := by omega
  have hh2 : h + 2 ≤ n := by omega
  have h1 := part_pp hS (i := 0) (j := j) (Nat.zero_le _) (by omega)
  have h2 := part_pp hS (i := h) (j := n) (by omega) (Nat.le_refl _)
  simp only [Nat.zero_mul, Nat.add_zero, Nat.sub_zero, List.drop_zero] at h1
  rw [List.take_of_length_le (by omega)] at h2
  have k1 : FN w L (zs.take j) := hF.sub fun z hz => List.mem_of_mem_take hz
  have k2 : FN w L (zs.drop h) := hF.sub fun z hz => List.mem_of_mem_drop hz
  have HW : Hid (sw ((zs.take j).map PP.pt) + sw ((zs.drop h).map PP.pt) = sw (zs.map PP.pt)) := Lib.hid (by rw [← hj, List.map_take, List.map_drop]; exact sw_cut h _ (by rw [List.length_map]; omega))
  have HI := Lib.hid ih
  obtain ⟨B, hB⟩ : ∃ B, 8 * max L 2 + 11 = B := ⟨_, rfl⟩
  have hB2 : B ≤ 811 := by omega
  have hB3 : 27 ≤ B := by omega
  rw [hB]
  simp only [hB] at HI
  obtain ⟨X, hX⟩ : ∃ X, h * B = X := ⟨_, rfl⟩
  obtain ⟨Y, hY⟩ : ∃ Y, (n - h - 1) * B = Y := ⟨_, rfl⟩
  have hXY : (n - 1) * B = X + Y := by rw [← hX, ← hY, ← Nat.add_mul]; congr 1; omega
  have hX1 : B ≤ X := by rw [← hX]; exact Nat.le_mul_of_pos_left _ hh1
  have hY1 : B ≤ Y := by rw [← hY]; exact Nat.le_mul_of_pos_left _ (by omega)
  have hX2 : X ≤ 20 * 811 := by rw [← hX]; exact Nat.mul_le_mul (by omega) hB2
  have hY2 : Y ≤ 20 * 811 := by rw [← hY]; exact Nat.mul_le_mul (by omega) hB2
  have hJX : (j - 1) * B = X := by rw [← hX]; congr 1; omega
  rw [hXY]
  subst hz
  clear hS hF ih hh
  go_enter Tryz.func51, Tryz.ntmps51
  go_wp2_with fail
  obtain ⟨W0, hW, b2, hbW, hszW0⟩ := boxes1 w #[.bool false, .slice none 0 0, .slice none 0 0] 63
  rw [hW]
  clear hW
  replace h1 := h1.below hbW
  replace h2 := h2.below hbW
  replace k1 := k1.below hbW
  replace k2 := k2.below hbW
  have H0 := hbW
  clear hbW
  go_wp2_with fail
  have hD := drawn_below W0
  replace h1 := h1.below hD
  replace h2 := h2.below hD
  replace k1 := k1.below hD
  replace k2 := k2.below hD
  replace b2 := b2.below hD
  replace H0 := H0.trans (hD.mono H0.size)
  clear hD
  refine wp_region_noPanic ?_
  refine wp_region_held_drew (S := (fun _ => True)) (by kernel_rfl) trivial (fun hHeld => ?_)
  generalize W0.drew = v1 at H0 hHeld h1 h2 k1 k2 b2 ⊢
  refine wpAnyH_take (i := 0) (v := ?_) rfl (by kernel_rfl) (by kernel_rfl) (by kernel_rfl) (fun _ _ _ h => h) (Or.inl ⟨by rfl, ?_⟩) (by assumption) ?_
  rotate_left
  · (intro w hSw; (try dsimp only at hSw); go_simp; (try with_reducible rfl))
  (try simp only [List.getElem_toArray, List.getElem_cons_zero, Act.put, List.setIfInBounds_toArray, List.set_cons_zero, List.set_cons_succ])
  refine wpAnyH_take (i := 1) (v := ?_) rfl (by kernel_rfl) (by kernel_rfl) (by kernel_rfl) (fun _ _ _ h => h) (Or.inl ⟨by rfl, ?_⟩) (by assumption) ?_
  rotate_left
  · (intro w hSw; (try dsimp only at hSw); go_simp; (try with_reducible rfl))
  (try simp only [List.getElem_toArray, List.getElem_cons_succ, List.getElem_cons_zero, Act.put, List.setIfInBounds_toArray, List.set_cons_zero, List.set_cons_succ])
  refine wpAnyH_take (i := 5) (v := ?_) rfl (by kernel_rfl) (by kernel_rfl) (by kernel_rfl) (fun _ _ _ h => h) (Or.inl ⟨by rfl, ?_⟩) (by assumption) ?_
  rotate_left
  · (intro w hSw; (try dsimp only at hSw); go_simp; (try with_reducible rfl))
  (try simp only [List.getElem_toArray, List.getElem_cons_succ, List.getElem_cons_zero, Act.put, List.setIfInBounds_toArray, List.set_cons_zero, List.set_cons_succ])
  refine wpAnyH_take (i := 6) (v := ?_) rfl (by kernel_rfl) (by kernel_rfl) (by kernel_rfl) (fun _ _ _ h => h) (Or.inl ⟨by rfl, ?_⟩) (by assumption) ?_
  rotate_left
  · (intro w hSw; (try dsimp only at hSw); go_simp; (try with_reducible rfl))
  (try simp only [List.getElem_toArray, List.getElem_cons_succ, List.getElem_cons_zero, Act.put, List.setIfInBounds_toArray, List.set_cons_zero, List.set_cons_succ])
  refine wpAnyH_take (i := 2) (v := ?_) rfl (by kernel_rfl) (by kernel_rfl) (by kernel_rfl) (fun _ _ _ h => h) (Or.inl ⟨by rfl, ?_⟩) (by assumption) ?_
  rotate_left
  · (intro w hSw; (try dsimp only at hSw); go_simp; (try with_reducible rfl))
  (try simp only [List.getElem_toArray, List.getElem_cons_succ, List.getElem_cons_zero, Act.put, List.setIfInBounds_toArray, List.set_cons_zero, List.set_cons_succ])
  refine wpAnyH_take (i := 7) (v := ?_) rfl (by kernel_rfl) (by kernel_rfl) (by kernel_rfl) (fun _ _ _ h => h) (Or.inl ⟨by rfl, ?_⟩) (by assumption) ?_
  rotate_left
  · (intro w hSw; (try dsimp only at hSw); go_simp; (try with_reducible rfl))
  (try simp only [List.getElem_toArray, List.getElem_cons_succ, List.getElem_cons_zero, Act.put, List.setIfInBounds_toArray, List.set_cons_zero, List.set_cons_succ])
  refine wpAnyH_take (i := 3) (v := ?_) rfl (by kernel_rfl) (by kernel_rfl) (by kernel_rfl) (fun _ _ _ h => h) (Or.inl ⟨by rfl, ?_⟩) (by assumption) ?_
  rotate_left
  · (intro w hSw; (try dsimp only at hSw); go_simp; (try with_reducible rfl))
  (try simp only [List.getElem_toArray, List.getElem_cons_succ, List.getElem_cons_zero, Act.put, List.setIfInBounds_toArray, List.set_cons_zero, List.set_cons_succ])
  refine wpAnyH_ready (rs := [4]) (by kernel_rfl) (by simp) (AllReadyH.cons (o := _) rfl (fun K hK => ?_) AllReadyH.nil)
  go_simp
  go_at_call 51
  refine (HI.out j (by omega) (by omega) (by omega) (by rw [List.length_take]; omega) h1 k1).mono ?_
  rintro e w2 ⟨s6, A6, n6, c6, D6, m6, e6, rfl, g6, hb⟩
  replace h1 := h1.below hb
  replace h2 := h2.below hb
  replace k1 := k1.below hb
  replace k2 := k2.below hb
  replace b2 := b2.below hb
  replace H0 := H0.trans (hb.mono H0.size)
  clear hb
  clear h1
  clear k1
  go_wp2_with fail
  refine hK.out _ _ trivial (fun hHeld => ?_)
  clear hK K
  (try simp only [List.getElem_toArray, List.getElem_cons_succ, List.getElem_cons_zero, Act.put, List.setIfInBounds_toArray, List.set_cons_zero, List.set_cons_succ])
  refine wpAnyH_ready (rs := [8]) (by kernel_rfl) (by simp) (AllReadyH.cons (o := _) rfl (fun K hK => ?_) AllReadyH.nil)
  go_simp
  go_at_call 51
  refine (HI.out (zs.length - h) (by omega) (by omega) (by omega) (by rw [List.length_drop]) h2 k2).mono ?_
  rintro e w3 ⟨s7, A7, n7, c7, D7, m7, e7, rfl, g7, hb⟩
  replace h2 := h2.below hb
  replace k2 := k2.below hb
  replace g6 := g6.below hb
  replace b2 := b2.below hb
  replace H0 := H0.trans (hb.mono H0.size)
  clear hb
  clear h2
  clear k2
  go_wp2_with fail
  refine hK.out _ _ trivial (fun hHeld => ?_)
  clear hK K
  (try simp only [List.getElem_toArray, List.getElem_cons_succ, List.getElem_cons_zero, Act.put, List.setIfInBounds_toArray, List.set_cons_zero, List.set_cons_succ])
  refine wpAnyH_ready (rs := [9]) (by kernel_rfl) (by simp) (AllReadyH.cons (o := _) rfl (fun K hK => ?_) AllReadyH.nil)
  go_simp
  go_at_call 81
  refine (radd_v g6.rq g7.rq (by omega) (by omega)).mono ?_
  rintro e w4 ⟨s8, A8, n8, c8, D8, m8, e8, rfl, g8, hb⟩
  replace g6 := g6.below hb
  replace g7 := g7.below hb
  replace b2 := b2.below hb
  replace H0 := H0.trans (hb.mono H0.size)
  clear hb
  clear g6
  clear g7
  go_wp2_with fail
  refine hK.out _ _ trivial (fun hHeld => ?_)
  clear hK K
  (try simp only [List.getElem_toArray, List.getElem_cons_succ, List.getElem_cons_zero, Act.put, List.setIfInBounds_toArray, List.set_cons_zero, List.set_cons_succ])
  have cb20 := b2.cell 0 _ rfl
  have yb20 := b2.frozen 0
  have cb21 := b2.cell 1 _ rfl
  have yb21 := b2.frozen 1
  have cb22 := b2.cell 2 _ rfl
  have yb22 := b2.frozen 2
  refine wpAnyH_ready (rs := [10]) (by kernel_rfl) (by simp) (AllReadyH.cons (o := _) rfl (fun K hK => ?_) AllReadyH.nil)
  go_simp
  clear cb20 yb20 cb21 yb21 cb22 yb22
  have hg := only_store3 w4 (w.heap.size) (.bool s8) (.slice A8 n8 c8) (.slice D8 m8 e8)
  have hB := b2.stored3 (.bool s8) (.slice A8 n8 c8) (.slice D8 m8 e8)
  generalize hX : (((w4.setCell ⟨w.heap.size, 0, none⟩ (.bool s8)).setCell ⟨w.heap.size, 1, none⟩ (.slice A8 n8 c8)).setCell ⟨w.heap.size, 2, none⟩ (.slice D8 m8 e8)) = X5 at hg hB ⊢
  clear hX
  replace g8 := g8.kept b2 (by simp [notInt]) hg
  replace b2 := hB
  replace H0 := below_only H0 hg (by omega) H0.size
  clear hg hB
  refine hK.out _ _ trivial (fun hHeld => ?_)
  clear hK K
  (try simp only [List.getElem_toArray, List.getElem_cons_succ, List.getElem_cons_zero, Act.put, List.setIfInBounds_toArray, List.set_cons_zero, List.set_cons_succ])
  refine wpAnyH_done (by kernel_rfl) ?_ _
  refine NoPanic.normal ?_
  go_wp2_with fail
  refine bodyPost_ret (ret_rat rfl rfl b2) rfl ?_
  exact ⟨_, _, _, _, _, _, _, rfl, (by rw [← HW.out]; exact g8.more (by omega)), H0⟩
theorem swept_v (hL : L ≤ 100) : ∀ (n : Nat), 2 ≤ n → n ≤ 20 → ∀ {w : World} {A : Option Addr} {c : Nat} {zs : List PP}, zs.length = n → ReadR w 6 (.slice A n c) (rowsP zs) → FN w L zs →
    Calls Tryz.prog 51 #[.slice A n c] w fun e w' => ∃ s6 A6 n6 c6 D6 m6 e6, e = .returned (.agg #[.bool s6, .slice A6 n6 c6, .slice D6 m6 e6]) ∧ NQ w' s6 (.slice A6 n6 c6) (.slice D6 m6 e6) (sw (zs.map PP.pt)) ((n - 1) * (8 * max L 2 + 11) - 1) ∧ Below w.heap.size w w' := by
  intro n
  induction n using Nat.strongRecOn with
  | _ n ih =>
    intro h2 h20 w A c zs hz hS hF
    by_cases hn : n = 2
    · subst hn
      refine (swept_two hS hF hz (by omega)).mono ?_
      rintro e w' ⟨s6, A6, n6, c6, D6, m6, e6, rfl, g2, hb⟩
      exact ⟨_, _, _, _, _, _, _, rfl, g2.more (by omega), hb⟩
    · exact swept_more hL hS hF hz (by omega) h20 (fun m hm h3 h4 => ih m hm h3 h4)
end
end Go.Proofs.YthmmnmajkeoaaabGreatDoor
namespace Go.Proofs.YthmmnmajkeoaaabGreatDoor
open Go.RowKit
section
variable {w : World} {L : Nat}
set_option maxRecDepth 100000 in
set_option maxHeartbeats 4000000 in
theorem area_v {A : Option Addr} {n c : Nat} {zs : List PP} (hL : L ≤ 100) (hS : ReadR w 6 (.slice A n c) (rowsP zs)) (hF : FN w L zs) (h3 : 1 ≤ zs.length) (h19 : zs.length ≤ 19) (hst : stopsB zs = false) (hop : opensB zs = true) :
    Calls Tryz.prog 30 #[.slice A n c] w fun e w' => ∃ s6 A6 n6 c6 D6 m6 e6, e = .returned (.tuple #[.agg #[.bool s6, .slice A6 n6 c6, .slice D6 m6 e6], .nilIface]) ∧ NQ w' s6 (.slice A6 n6 c6) (.slice D6 m6 e6) (sw ((zs ++ zs.take 1).map PP.pt) / 2) (zs.length * (8 * max L 2 + 11) + 3) ∧ Below w.heap.size w w' := by
  obtain rfl := pp_len hS
  obtain ⟨g, o, rfl, e0, _⟩ := pp_elem (i := 0) (x := zs.getD 0 default) hS (get_ok (by omega))
  clear e0
  have hc0 : zs.length ≤ c := by obtain ⟨_, _, _, e1, h1, _⟩ := hS; injection e1 with _ e2 e3; omega
  have h1c : 1 ≤ c := by omega
  have hS1 := part_pp hS (i := 0) (j := 1) (Nat.zero_le _) (by omega)
  simp only [Nat.zero_mul, Nat.add_zero, Nat.sub_zero, List.drop_zero] at hS1
  have hl1 : (zs.take 1).length = 1 := by rw [List.length_take]; omega
  have hFc : FN w L (zs ++ zs.take 1) := hF.app (hF.sub fun z hz => List.mem_of_mem_take hz)
  have hK : ∀ W, Below w.heap.size w W → Calls Tryz.prog 24 #[.slice (some ⟨g, o, none⟩) zs.length c] W fun e w' => e = .returned .nilIface ∧ Below W.heap.size W w' := fun W hW => check_ok (hS.below hW) (hF.below hW) (by omega) (by omega) hst hop
  have HK := Lib.hid hK
  have HL1 := Lib.hid hl1
  clear hK hF hl1
  go_enter Tryz.func30, Tryz.ntmps30
  go_wp2_with fail
  obtain ⟨W0, hW, b2, H0, hsz⟩ := boxes1 w #[.bool false, .slice none 0 0, .slice none 0 0] 63
  rw [hW]
  clear hW hsz
  refine (HK.out W0 H0).mono ?_
  rintro e w1 ⟨rfl, hb⟩
  replace b2 := b2.below hb
  replace H0 := H0.trans (hb.mono H0.size)
  clear hb
  obtain ⟨W2, hW2, b5, hb5, hsz⟩ := boxes1 w1 #[.slice (some ⟨g, o, none⟩) zs.length c, .slice (some ⟨g, o, none⟩) 1 c] 30
  clear hsz
  have hS2 := hS.below (H0.trans (hb5.mono H0.size))
  have hS3 := hS1.below (H0.trans (hb5.mono H0.size))
  go_wp2_with fail
  clear hW2
  refine (concat2_v (b5.cell 0 _ rfl) (b5.cell 1 _ rfl) hS2 hS3 h3 (by omega) (by rw [HL1.out]; omega)).mono ?_
  rintro e w3 ⟨A3, c3, rfl, hC, hb⟩
  replace b2 := (b2.below hb5).below hb
  replace H0 := (H0.trans (hb5.mono H0.size)).trans (hb.mono (H0.trans (hb5.mono H0.size)).size)
  have hF3 := hFc.below H0
  clear hb hb5 b5 hS2 hS3 hS1 hS hFc
  have HN : Hid ((zs ++ zs.take 1).length = zs.length + 1) := Lib.hid (by rw [List.length_append, HL1.out])
  have hx2 : 2 ≤ (zs ++ zs.take 1).length := by rw [HN.out]; omega
  have hx20 : (zs ++ zs.take 1).length ≤ 20 := by rw [HN.out]; omega
  obtain ⟨zz, hzz⟩ : ∃ zz, zs ++ zs.take 1 = zz := ⟨_, rfl⟩
  rw [hzz] at hC hF3 HN hx2 hx20 ⊢
  have HZ := Lib.hid hzz
  clear hzz
  go_wp2_with fail
  refine (swept_v hL zz.length hx2 hx20 rfl hC hF3).mono ?_
  rintro e w4 ⟨s6, A6, n6, c6, D6, m6, e6, rfl, g6, hb⟩
  replace b2 := b2.below hb
  replace H0 := H0.trans (hb.mono H0.size)
  obtain ⟨X, hX⟩ : ∃ X, zs.length * (8 * max L 2 + 11) = X := ⟨_, rfl⟩
  have hX1 : X ≤ 19 * 811 := by rw [← hX]; exact Nat.mul_le_mul h19 (by omega)
  have hX2 : 27 ≤ X := by rw [← hX]; exact Nat.le_trans (by omega) (Nat.le_mul_of_pos_left _ h3)
  rw [HN.out, show zs.length + 1 - 1 = zs.length from rfl, hX] at g6
  clear hb hC hF3 hx2 hx20 HN
  go_wp2_with fail
  refine (rfromint_v 0 (by decide) (by decide) _).mono ?_
  rintro e w5 ⟨s7, A7, n7, c7, D7, m7, e7, rfl, g7, hb⟩
  replace b2 := b2.below hb
  replace g6 := g6.below hb
  replace H0 := H0.trans (hb.mono H0.size)
  clear hb
  go_wp2_with fail
  refine (rmiddle_v g6.rq g7.rq (by omega) (by omega)).mono ?_
  rintro e w6 ⟨s8, A8, n8, c8, D8, m8, e8, rfl, g8, hb⟩
  replace b2 := b2.below hb
  replace H0 := H0.trans (hb.mono H0.size)
  clear hb g6 g7
  have x0 := b2.cell 0 _ rfl
  have x1 := b2.cell 1 _ rfl
  have x2 := b2.cell 2 _ rfl
  have y0 := b2.frozen 0
  have y1 := b2.frozen 1
  have y2 := b2.frozen 2
  go_wp2_with fail
  clear x0 x1 x2 y0 y1 y2
  have hg := only_store3 w6 (w.heap.size) (.bool s8) (.slice A8 n8 c8) (.slice D8 m8 e8)
  have hB := b2.stored3 (.bool s8) (.slice A8 n8 c8) (.slice D8 m8 e8)
  generalize hX9 : (((w6.setCell ⟨w.heap.size, 0, none⟩ (.bool s8)).setCell ⟨w.heap.size, 1, none⟩ (.slice A8 n8 c8)).setCell ⟨w.heap.size, 2, none⟩ (.slice D8 m8 e8)) = X9 at hg hB ⊢
  clear hX9
  replace g8 := g8.kept b2 (by simp [notInt]) hg
  replace H0 := below_only H0 hg (Nat.le_refl _) H0.size
  refine bodyPost_ret (ret_rat_b rfl rfl hB) rfl ?_
  refine ⟨_, _, _, _, _, _, _, rfl, ?_, H0⟩
  rw [show ((0 : Int) : Rat) = 0 from rfl, Rat.add_zero, ← HZ.out] at g8
  exact g8.more (by omega)
end
end Go.Proofs.YthmmnmajkeoaaabGreatDoor
