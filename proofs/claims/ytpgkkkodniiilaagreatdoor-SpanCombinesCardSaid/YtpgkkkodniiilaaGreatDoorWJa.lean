/-
  slices.Values, slices.AppendSeq and slices.Collect of a list of ends.
-/
import Derived.RangeFuncNested
import Derived.RangeFuncBound
import Derived.RangeFuncCalls
import Derived.RangeFuncLeaves
import Derived.RangeFuncBox
import Derived.Shelf.Abstract
import Derived.Shelf.RegionOpen
import Derived.WalkKit
import Derived.OwnWalkIn
import Derived.TacticsInMore
import Derived.LoopNIn
import Derived.LoopIn
import Derived.Test.YtpgkkkodniiilaaGreatDoorWSpH
namespace Go.Proofs.YtpgkkkodniiilaaGreatDoor
open Go.RowKit Go.Shelf
attribute [local go_sem] Oper.semAt_some
/-- The cells of an end. -/
structure E4 where
  s : Bool
  A : Option Addr
  n : Nat
  c : Nat
  D : Option Addr
  m : Nat
  e : Nat
  k : Int
def E4.cells (x : E4) : List Value := [.bool x.s, .slice x.A x.n x.c, .slice x.D x.m x.e, .int .i64 x.k]
section
variable {w : World}
theorem e4_elem {A : Option Addr} {n cap i : Nat} {zs : List E4} {x : E4} (hS : ReadR w 4 (.slice A n cap) (zs.map E4.cells)) (hx : zs[i]? = some x) : ∃ g o, A = some ⟨g, o, none⟩ ∧ w.cell? ⟨g, o + i * 4, none⟩ = some (.bool x.s) ∧ w.cell? ⟨g, o + i * 4 + 1, none⟩ = some (.slice x.A x.n x.c) ∧ w.cell? ⟨g, o + i * 4 + 2, none⟩ = some (.slice x.D x.m x.e) ∧ w.cell? ⟨g, o + i * 4 + 3, none⟩ = some (.int .i64 x.k) := by
  obtain ⟨hk, A', c', e1, _, _, hr⟩ := hS
  injection e1 with e1 e2 e3
  subst e1 e2 e3
  have hcs : (zs.map E4.cells)[i]? = some x.cells := by rw [List.getElem?_map, hx]; rfl
  obtain ⟨g, o, e4, hcell⟩ := hr (by intro h; rw [h] at hcs; cases hcs)
  have hc := fun j y hy => hcell i _ hcs j y hy
  refine ⟨g, o, e4, hc 0 _ rfl, ?_, ?_, ?_⟩
  · rw [Nat.add_assoc]; exact hc 1 _ rfl
  · rw [Nat.add_assoc]; exact hc 2 _ rfl
  · rw [Nat.add_assoc]; exact hc 3 _ rfl
theorem e4_len {A : Option Addr} {n cap : Nat} {zs : List E4} (hS : ReadR w 4 (.slice A n cap) (zs.map E4.cells)) : n = zs.length := by
  obtain ⟨_, A', c', e1, _⟩ := hS
  injection e1 with e1 e2 e3
  rw [e2, List.length_map]
set_option maxRecDepth 100000 in
set_option maxHeartbeats 4000000 in
theorem vals1_in (F : Fence) (n : Nat) (h7 : F.fn 129) (hro : F.round = none) (hn : 1 ≤ n) (l Bs : Nat) {A : Option Addr} {n0 cap : Nat} (zs : List E4) (hlen : zs.length ≤ 100000) (J Jx : List E4 → World → Prop) (W : World) (hJ : AbidesFrom W.heap.size J)
    (hY : ∀ pre x W1, J pre W1 → pre.length < zs.length → YieldAt F (n - 1) Tryz.prog l #[.agg #[.bool x.s, .slice x.A x.n x.c, .slice x.D x.m x.e, .int .i64 x.k]] W1 fun e W' =>
      (e = .returned (.bool true) ∧ J (pre ++ [x]) W' ∧ Below w.heap.size W1 W') ∨ (e = .returned (.bool false) ∧ Jx (pre ++ [x]) W'))
    (hW : Below w.heap.size w W) (hBs : W.cell? ⟨Bs, 0, none⟩ = some (.slice A n0 cap)) (hS : ReadR w 4 (.slice A n0 cap) (zs.map E4.cells)) (h0 : J [] W) :
    CallsIn F n Tryz.prog 129 #[.func (.yield l) #[] #[], .pointer (some ⟨Bs, 0, none⟩)] W fun e W' => (∃ v, e = .returned v) ∧ ((∃ ys, ys = zs ∧ J ys W') ∨ (∃ pre, True ∧ Jx pre W')) := by
  obtain rfl := e4_len hS
  refine callsIn_of_wp Tryz.func129 rfl h7 ?_ hro
  simp only [Tryz.ntmps129, List.size_toArray, List.length_cons, List.length_nil, Nat.reduceAdd, Nat.reduceSub, Array.replicate_succ, Array.replicate_zero, List.push_toArray, List.append_toArray, List.nil_append, List.cons_append]
  gi_wp2
  gi_loopw [7] (fun i wr => ∃ k : Nat, k ≤ zs.length ∧ i = .int .i64 k ∧ J (zs.take k) wr ∧ Below w.heap.size w wr ∧ W.heap.size ≤ wr.heap.size) (fun i _ => zs.length - (intOf i).toNat)
  case atStart => exact ⟨0, Nat.zero_le _, rfl, h0, hW, Nat.le_refl _⟩
  case round =>
    clear hBs hW h0
    obtain ⟨k, hk, rfl, hJs, hnx, hsz⟩ := hrel
    by_cases hlt : k < zs.length
    · obtain ⟨x, hx⟩ : ∃ x, zs[k]? = some x := ⟨_, List.getElem?_eq_getElem hlt⟩
      obtain ⟨g, o, rfl, e0, e1, e2, e3⟩ := e4_elem hS hx
      have c0 := (hnx.cell (World.block_lt_of_cell? w _ e0)).trans e0
      have c1 := (hnx.cell (World.block_lt_of_cell? w _ e1)).trans e1
      have c2 := (hnx.cell (World.block_lt_of_cell? w _ e2)).trans e2
      have c3 := (hnx.cell (World.block_lt_of_cell? w _ e3)).trans e3
      have HT : Hid (zs.take (k + 1) = zs.take k ++ [x]) := Lib.hid (by rw [List.take_add_one, hx]; rfl)
      clear e0 e1 e2 e3 hx
      obtain ⟨W5, hW5, b4, hb5, hs5⟩ := boxes1 wr #[.bool x.s, .slice x.A x.n x.c, .slice x.D x.m x.e, .int .i64 x.k] 133
      have hJ5 : J (zs.take k) W5 := hJ _ wr W5 none hJs (by rw [← hW5]; exact World.grownBy_alloc wr _ none) (fun r e => by cases e)
      have hL : (zs.take k).length < zs.length := by rw [List.length_take]; omega
      obtain ⟨fn, tmps, assign, body, hy, hR⟩ := hY _ x W5 hJ5 hL
      have hn5 : Below w.heap.size w W5 := hnx.trans (hb5.mono hnx.size)
      clear hJs hJ5 hL hS hY
      have x0 := b4.cell 0 _ rfl
      have x1 := b4.cell 1 _ rfl
      have x2 := b4.cell 2 _ rfl
      have x3 := b4.cell 3 _ rfl
      gi_wp2
      clear hW5 x0 x1 x2 x3 c0 c1 c2 c3 b4
      refine hR.mono ?_
      rintro e W3 (⟨rfl, hJ3, hk3⟩ | ⟨rfl, hJx3⟩)
      · gi_wp2
        go_roundw
        case rel => exact ⟨k + 1, by omega, by simp, by rw [HT.out]; exact hJ3, hn5.trans hk3, by have := hk3.size; omega⟩
        case measure => simp [intOf]; omega
      · gi_wp2
        refine bodyPost_ret (results_none rfl _ _ _) rfl ?_
        exact ⟨⟨_, rfl⟩, .inr ⟨_, trivial, hJx3⟩⟩
    · obtain rfl : k = zs.length := by omega
      rw [List.take_length] at hJs
      gi_wp2
      go_end0
      exact ⟨⟨_, rfl⟩, .inl ⟨_, rfl, hJs⟩⟩
theorem vals_v (A : Option Addr) (n c : Nat) (w : World) :
    Calls Tryz.prog 101 #[.slice A n c] w fun e w' => e = .returned (.func (.func 129) #[] #[.pointer (some ⟨w.heap.size, 0, none⟩)]) ∧ w' = w.alloc (.cells #[.slice A n c] 91) := by
  go_enter Tryz.func101, Tryz.ntmps101
  go_wp2_with fail
  go_ret
  exact ⟨rfl, rfl⟩
/-- An own row lies in cells. -/
theorem OwnE.cellsRow {B k : Nat} {e : TypeId} {v : Value} {css : List (List Value)} (h : OwnE w B e k v css) : ∀ (j : Nat) (o : Obj), v.ownBlock = some j → w.heap[j]? = some o → o.isCells = true := by
  intro j o hj ho
  rcases h.2.1.2 with ⟨rfl, _⟩ | ⟨g, cap, cur, rfl, _, hgb, _⟩
  · simp [Value.ownBlock] at hj
  · have : g = j := by simpa [Value.ownBlock] using hj
    subst this; rw [hgb] at ho; cases ho; rfl
theorem OwnE.notRow {B k : Nat} {e : TypeId} {v : Value} {css : List (List Value)} {w' : World} {row : Option Nat} (h : OwnE w B e k v css) (hg : w.grownBy w' row) (hr : ∀ r, row = some r → ∃ o : Obj, w.heap[r]? = some o ∧ o.isCells = false) : OwnE w' B e k v css := by
  cases row with
  | none => 
    cases hv : v.ownBlock with
    | none => exact h.kept hg (.inl hv)
    | some g => exact h.kept hg (.inr (by rw [hv]; intro he; cases he))
  | some r =>
    refine h.kept hg (.inr fun e => ?_)
    obtain ⟨o, ho, hc⟩ := hr r rfl
    rw [h.cellsRow r o e ho] at hc; cases hc
theorem Box.notRow {g : Nat} {cs : Array Value} {t : TypeId} {w' : World} {row : Option Nat} (h : Box w g cs t) (hg : w.grownBy w' row) (hr : ∀ r, row = some r → ∃ o : Obj, w.heap[r]? = some o ∧ o.isCells = false) : Box w' g cs t := by
  refine (hg.block g h.lt fun e => ?_).trans h
  obtain ⟨o, ho, hc⟩ := hr g e.symm
  rw [show w.heap[g]? = _ from h] at ho
  cases ho; cases hc
theorem wpListIn_append_row {F : Fence} {n : Nat} {t e : TypeId} {k : Nat} {v : Value} {css : List (List Value)} {ops : Array Oper} {rest : List Oper} {o : Oper} {a : Act} {Q : Exit → Act → World → Prop} (hgd : o.guard = none) (s x : Operand) (ho : o.op = .call { callee := .builtin .append, args := #[s, x], argTypes := #[t, t] })
    (hT : ElemT t e k) (B : Nat) (cs : List Value) (hs : a.eval s = v) (hv : OwnE w B e k v css) (hx : a.eval x = .slice (some ⟨w.heap.size, 0, none⟩) 1 1) (hl : cs.length = k) (h1 : cs.all (fun u => u.oneCell' && notInt u) = true) (hn : css.length ≤ 100000) (hB : B ≤ w.heap.size)
    (h : ∀ v' w', OwnE w' B e k v' (css ++ [cs]) → w.grownBy w' v.ownBlock → wpListIn F n Tryz.prog ops Q rest (a.put o.dst v') w') : wpListIn F n Tryz.prog ops Q (o :: rest) a (w.alloc (.cells cs.toArray e)) := by
  refine wpListIn_plain hgd fun K hK => ?_
  have hall : ∀ u ∈ cs, u.oneCell' = true ∧ notInt u = true := fun u hu => by
    have := List.all_eq_true.1 h1 u hu
    simpa using this
  have hal : Below w.heap.size w (w.alloc (.cells cs.toArray e)) := (Below.refl _ _).alloc (Nat.le_refl _) _
  obtain ⟨v', w', hrun, h2, h3⟩ := run_append_row (ty := o.type) (c := 1) hT (hv.below hal) (ad := ⟨w.heap.size, 0, none⟩) (cs := cs) hl (lit_cells w cs e) (fun u hu => (hall u hu).1) (fun u hu => (hall u hu).2) hn (by have := hal.size; omega)
  unfold Oper.wpIn
  refine ⟨?_, ?_⟩
  · simp [Oper.about, ho, resolve, Target.leads, Sem.run_pure]
  · rw [Oper.semAt_plain F _ _ (by rw [ho]; intro c hc'; cases hc')]
    simp [execOp, ho, resolve, invoke, builtin, hs, hx, hrun, Result.andThen]
    exact hK _ _ (h v' w' h2 ⟨h3.os.trans hal.os, h3.tape.trans hal.tape, h3.output.trans hal.output, Nat.le_trans hal.size h3.size, fun j hj hne => (h3.block j (by have := hal.size; omega) hne).trans (hal.block j hj)⟩)
end
end Go.Proofs.YtpgkkkodniiilaaGreatDoor
namespace Go.Proofs.YtpgkkkodniiilaaGreatDoor
open Go.RowKit Go.Shelf
attribute [local go_sem] Oper.semAt_some
section
variable {w : World}
theorem vals_stops (F : Fence) (n : Nat) (h7 : F.fn 129) (hro : F.round = none) (hn : 1 ≤ n) (Bs : Nat) {A : Option Addr} {n0 cap : Nat} (zs : List E4) (hlen : zs.length ≤ 100000) (W0 : World) (h0 : Below w.heap.size w W0)
    (hBs : W0.cell? ⟨Bs, 0, none⟩ = some (.slice A n0 cap)) (hS : ReadR w 4 (.slice A n0 cap) (zs.map E4.cells)) :
    SeqStopsK F n Tryz.prog 129 #[.pointer (some ⟨Bs, 0, none⟩)] (fun x : E4 => #[Value.agg #[.bool x.s, .slice x.A x.n x.c, .slice x.D x.m x.e, .int .i64 x.k]]) (Below w.heap.size) (fun ys => ys = zs) (fun _ => True) zs.length W0 := fun l J Jx W hW hJ _ hY hj =>
  vals1_in (w := w) F n h7 hro hn l Bs zs hlen J Jx W hJ hY (h0.trans (hW.mono h0.size)) ((hW.cell (World.block_lt_of_cell? W0 _ hBs)).trans hBs) hS hj
set_option maxRecDepth 100000 in
set_option maxHeartbeats 4000000 in
theorem appseq_in (F : Fence) (n : Nat) (h1 : F.fn 152) (h7 : F.fn 129) (hro : F.round = none) (hn : 3 ≤ n) (Bq : Nat) {A : Option Addr} {n0 cap : Nat} (zs : List E4) (hlen : zs.length ≤ 50000)
    (hBq : w.cell? ⟨Bq, 0, none⟩ = some (.slice A n0 cap)) (hS : ReadR w 4 (.slice A n0 cap) (zs.map E4.cells)) :
    CallsIn F n Tryz.prog 152 #[.slice none 0 0, .func (.func 129) #[] #[.pointer (some ⟨Bq, 0, none⟩)]] w fun e w' => ∃ A' c', e = .returned (.slice A' zs.length c') ∧ OwnE w' w.heap.size 133 4 (.slice A' zs.length c') (zs.map E4.cells) ∧ Below w.heap.size w w' := by
  have hn1 : 1 ≤ n := by omega
  refine callsIn_of_wp_marks Tryz.func152 rfl h1 ?_ hro
  simp only [Tryz.ntmps152, List.size_toArray, List.length_cons, List.length_nil, Nat.reduceAdd, Nat.reduceSub, Array.replicate_succ, Array.replicate_zero, List.push_toArray, List.append_toArray, List.nil_append, List.cons_append]
  gi_wp2
  obtain ⟨W0, hW0, bS, hb0, hsz⟩ := boxes1 w #[.slice none 0 0] 91
  rw [hW0]
  clear hW0
  have cq := (hb0.cell (World.block_lt_of_cell? w _ hBq)).trans hBq
  refine wpIn_rangeFunc_ownH hro hn1 (gf := 129) (lb := #[.pointer (some ⟨Bq, 0, none⟩)]) rfl h7 (enters_of Tryz.func129 (by kernel_rfl) rfl)
    (vals_stops (w := w) F (n - 1) h7 hro (by omega) Bq zs (by omega) W0 hb0 cq hS) belowK_t (belowK_b (by omega)) (Below.refl _ _) (fun _ => rfl)
    (fun pre W => (∃ A' c', Box W w.heap.size #[.slice A' pre.length c'] 91 ∧ OwnE W (w.heap.size + 1) 133 4 (.slice A' pre.length c') (pre.map E4.cells)) ∧ Below w.heap.size w W)
    (fun _ _ _ => False)
    (OwnFrom.and (fun pre X Y row hs hg hr => by
      obtain ⟨A', c', k1, k2⟩ := hs
      exact ⟨A', c', k1.notRow hg (fun r e => (hr r e).2), k2.notRow hg (fun r e => (hr r e).2)⟩) (ownFrom_below (Nat.le_refl _) (by omega)))
    (fun _ _ _ _ _ hs _ _ => hs)
    ⟨⟨none, 0, bS, OwnE.nil _ _ _ _⟩, hb0⟩
    (fun x a' W => ∃ Bx, w.heap.size + 1 ≤ Bx ∧ Box W Bx #[.bool x.s, .slice x.A x.n x.c, .slice x.D x.m x.e, .int .i64 x.k] 133 ∧ a' = { tmps := #[.slice none 0 0, .func (.func 129) #[] #[.pointer (some ⟨Bq, 0, none⟩)], .pointer (some ⟨w.heap.size, 0, none⟩), undef, .slice none 0 0, .pointer (some ⟨Bx, 0, none⟩), .func (.func 129) #[] #[.pointer (some ⟨Bq, 0, none⟩)], .agg #[.bool x.s, .slice x.A x.n x.c, .slice x.D x.m x.e, .int .i64 x.k], undef, undef, undef, undef, undef], defers := [] })
    (fun x a' _ X Y row hs hg hr => by
      obtain ⟨Bx, k1, k2, k3⟩ := hs
      exact ⟨Bx, k1, k2.notRow hg (fun r e => (hr r e).2), k3⟩)
    ?assign ?body ?done ?stop
  case assign =>
    rintro l pre x W K ⟨⟨A', c', k1, k2⟩, k3⟩ hK
    obtain ⟨W5, hW5, b5, hb5, hs5⟩ := boxes1 W #[.bool x.s, .slice x.A x.n x.c, .slice x.D x.m x.e, .int .i64 x.k] 133
    have hk5 : KeepsOthers W W5 := by rw [← hW5]; exact KeepsOthers.alloc _ _
    gi_wp2
    exact hK _ _ (hk5.from _) (hb5.mono k3.size) ⟨⟨A', c', k1.below hb5, k2.below hb5⟩, k3.trans (hb5.mono k3.size)⟩ ⟨W.heap.size, by have := k1.lt; omega, b5, rfl⟩
  case body =>
    rintro l pre x a' W hl ⟨r, hr⟩ ⟨⟨A', c', k1, k2⟩, k3⟩ ⟨Bx, hBx, bX, rfl⟩ hlt
    have cS := k1.cell 0 _ rfl
    have x0 := bX.cell 0 _ rfl
    have x1 := bX.cell 1 _ rfl
    have x2 := bX.cell 2 _ rfl
    have x3 := bX.cell 3 _ rfl
    have hq : ([.bool x.s, .slice x.A x.n x.c, .slice x.D x.m x.e, .int .i64 x.k] : List Value).all (fun u => u.oneCell' && notInt u) = true := by simp [notInt, Value.oneCell']
    have ln : (pre.map E4.cells).length ≤ 100000 := by rw [List.length_map]; omega
    have lB : w.heap.size + 1 ≤ W.heap.size := by have := k1.lt; omega
    gi_wp2_with (gi_at_builtin; refine wpListIn_append_row (v := .slice A' pre.length c') (css := pre.map E4.cells) rfl _ _ rfl elem_end (w.heap.size + 1) [.bool x.s, .slice x.A x.n x.c, .slice x.D x.m x.e, .int .i64 x.k] rfl k2 rfl rfl hq ln lB ?_; intro v1 w3 hown1 hg1; obtain ⟨A1, c1, rfl⟩ : ∃ A1 c1, v1 = .slice A1 (pre.length + 1) c1 := (by obtain ⟨A1, c1, e9, _, _⟩ := hown1.form; exact ⟨A1, c1, by rw [e9]; simp⟩); have bS3 : Box w3 w.heap.size #[.slice A' pre.length c'] 91 := (hg1.block _ k1.lt (by intro he; have := (k2.lt _ he.symm).1; omega)).trans k1; have cS3 := bS3.cell 0 _ rfl; have fS3 := bS3.frozen 0)
    have hl1 : (pre ++ [x]).length = pre.length + 1 := by simp
    refine ⟨((KeepsOthers.of_grownBy hg1 (k2.cellsRow)).trans (KeepsOthers.setCell _ _ _)).from _, ((k2.trod hg1 lB).mono (Nat.le_succ w.heap.size)).setCell (p := ⟨w.heap.size, 0, none⟩) (Nat.le_refl _) _, ⟨⟨A1, c1, by rw [hl1]; exact bS3.stored1 _, ?_⟩, ?_⟩⟩
    · have h9 : (pre.map E4.cells ++ [[.bool x.s, .slice x.A x.n x.c, .slice x.D x.m x.e, .int .i64 x.k]]) = (pre ++ [x]).map E4.cells := by rw [List.map_append]; rfl
      rw [← h9, hl1]
      exact hown1.kept (only_setCell _ ⟨w.heap.size, 0, none⟩ _) (.inr (hown1.ne (Nat.lt_succ_self _)))
    · exact k3.trans (((k2.trod hg1 lB).mono (Nat.le_succ w.heap.size)).setCell (p := ⟨w.heap.size, 0, none⟩) (Nat.le_refl _) _)
  case done =>
    rintro D ys W hD rfl ⟨⟨A', c', k1, k2⟩, k3⟩ hK
    have cS := k1.cell 0 _ rfl
    gi_wp2
    refine ⟨by simp, .inl ⟨_, _, rfl, run_takeDeferred hK, ?_⟩⟩
    exact ⟨_, results_tmp rfl _ _ _, A', c', rfl, (k2.notRow (grownBy_putObj' W D (.deferred none)) (fun r e => by cases e; exact ⟨_, hK, rfl⟩)).base (by omega), k3.trans (belowK_b (w := w) (Nat.le_refl _) W D _ _ (by omega) hK rfl rfl)⟩
  case stop =>
    rintro D c pre W _ _ h _
    exact h.elim
theorem appseq_v (Bq : Nat) {A : Option Addr} {n0 cap : Nat} (zs : List E4) (hlen : zs.length ≤ 50000) (hBq : w.cell? ⟨Bq, 0, none⟩ = some (.slice A n0 cap)) (hS : ReadR w 4 (.slice A n0 cap) (zs.map E4.cells)) :
    Calls Tryz.prog 152 #[.slice none 0 0, .func (.func 129) #[] #[.pointer (some ⟨Bq, 0, none⟩)]] w fun e w' => ∃ A' c', e = .returned (.slice A' zs.length c') ∧ OwnE w' w.heap.size 133 4 (.slice A' zs.length c') (zs.map E4.cells) ∧ Below w.heap.size w w' :=
  callsIn_wide.1 (appseq_in Fence.wide 3 trivial trivial rfl (by decide) Bq zs hlen hBq hS)
theorem collect_v (Bq : Nat) {A : Option Addr} {n0 cap : Nat} (zs : List E4) (hlen : zs.length ≤ 50000) (hBq : w.cell? ⟨Bq, 0, none⟩ = some (.slice A n0 cap)) (hS : ReadR w 4 (.slice A n0 cap) (zs.map E4.cells)) :
    Calls Tryz.prog 127 #[.func (.func 129) #[] #[.pointer (some ⟨Bq, 0, none⟩)]] w fun e w' => ∃ A' c', e = .returned (.slice A' zs.length c') ∧ OwnE w' w.heap.size 133 4 (.slice A' zs.length c') (zs.map E4.cells) ∧ Below w.heap.size w w' := by
  go_enter Tryz.func127, Tryz.ntmps127
  go_wp2_with fail
  refine (appseq_v Bq zs hlen hBq hS).mono ?_
  rintro e w1 ⟨A', c', rfl, hO, hb⟩
  go_wp2_with fail
  go_ret
  exact ⟨A', c', rfl, hO, hb⟩
end
end Go.Proofs.YtpgkkkodniiilaaGreatDoor
