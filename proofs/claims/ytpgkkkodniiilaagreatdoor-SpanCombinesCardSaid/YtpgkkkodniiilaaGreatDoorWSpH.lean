/-
  reached.
-/
import Derived.Test.YtpgkkkodniiilaaGreatDoorWSq
import Derived.Test.YtpgkkkodniiilaaGreatDoorWSG
import Derived.IntWalk
import Derived.Deep.Cut
namespace Go.Proofs.YtpgkkkodniiilaaGreatDoor
open List (getElem_toArray getElem_cons_succ getElem_cons_zero setIfInBounds_toArray set_cons_zero set_cons_succ)
open Go.RowKit
section
variable {f0 h0 f1 h1 f2 h2 f3 h3 f4 h4 f5 h5 f6 h6 f7 h7 f8 h8 f9 h9 f10 h10 f11 h11 : Bool} {A0 A1 A2 A3 A4 A5 A8 A9 D0 D5 : Option Addr} {n0 n1 n2 n5 n8 n9 c0 c1 c2 c3 c4 c5 c8 c9 m0 m5 e0 e1 e5 : Nat} {s0 s1 : Bool} {q0 q1 q2 q3 q4 q5 q6 q7 : Rat} {z0 z1 z2 z3 z4 z5 z6 z7 z8 z9 z10 z11 : Int} {L L0 L1 x y : Nat} {k : Int} {b : Bool} {w : World}
variable {o0 o1 o2 o3 : Option Rat} {l l' : List Sp}
/-- The state behind the numbers ts: the last span is open. -/
def finT : Bool → List Rat → Bool
  | b, [] => b
  | b, _ :: ts => finT (!b) ts
theorem fin_snoc (b : Bool) (ts : List Rat) (a : Rat) : finT b (ts ++ [a]) = !finT b ts := by
  induction ts generalizing b with
  | nil => rfl
  | cons t ts ih => exact ih (!b)
theorem mkS_close (ts : List Rat) (a : Rat) : (∀ lo, finT true ts = true → ∃ l0 l1, mkS (some lo) ts = l0 ++ [⟨l1, none⟩] ∧ mkS (some lo) (ts ++ [a]) = l0 ++ [⟨l1, some a⟩]) ∧ (finT false ts = true → ∃ l0 l1, mkS none ts = l0 ++ [⟨l1, none⟩] ∧ mkS none (ts ++ [a]) = l0 ++ [⟨l1, some a⟩]) := by
  induction ts with
  | nil => exact ⟨fun lo _ => ⟨[], lo, rfl, rfl⟩, fun h => (by cases h)⟩
  | cons t ts ih =>
    refine ⟨fun lo h => ?_, fun h => ih.1 (some t) h⟩
    obtain ⟨l0, l1, h1, h2⟩ := ih.2 h
    exact ⟨⟨lo, some t⟩ :: l0, l1, by show _ :: mkS none ts = _; rw [h1]; rfl, by show _ :: mkS none (ts ++ [a]) = _; rw [h2]; rfl⟩
theorem set_close {b : Bool} {ts : List Rat} (a : Rat) (h : finT b ts = true) : ∃ l0 l1, spansOf b ts = l0 ++ [⟨l1, none⟩] ∧ spansOf b (ts ++ [a]) = l0 ++ [⟨l1, some a⟩] := by
  cases b
  · exact (mkS_close ts a).2 h
  · exact (mkS_close ts a).1 none h
theorem mkS_open (ts : List Rat) (a : Rat) : (∀ lo, finT true ts = false → mkS (some lo) (ts ++ [a]) = mkS (some lo) ts ++ [⟨some a, none⟩] ∧ ∃ l0 l1 q, mkS (some lo) ts = l0 ++ [⟨l1, some q⟩]) ∧ (finT false ts = false → mkS none (ts ++ [a]) = mkS none ts ++ [⟨some a, none⟩] ∧ (mkS none ts = [] ∨ ∃ l0 l1 q, mkS none ts = l0 ++ [⟨l1, some q⟩])) := by
  induction ts with
  | nil => exact ⟨fun lo h => (by cases h), fun _ => ⟨rfl, .inl rfl⟩⟩
  | cons t ts ih =>
    refine ⟨fun lo h => ?_, fun h => ?_⟩
    · obtain ⟨h1, h2⟩ := ih.2 h
      refine ⟨by show _ :: mkS none (ts ++ [a]) = _; rw [h1]; rfl, ?_⟩
      rcases h2 with h2 | ⟨l0, l1, q, h2⟩
      · exact ⟨[], lo, t, by show _ :: mkS none ts = _; rw [h2]; rfl⟩
      · exact ⟨⟨lo, some t⟩ :: l0, l1, q, by show _ :: mkS none ts = _; rw [h2]; rfl⟩
    · obtain ⟨h1, h2⟩ := ih.1 (some t) h
      exact ⟨h1, .inr h2⟩
theorem set_open {b : Bool} {ts : List Rat} (a : Rat) (h : finT b ts = false) : spansOf b (ts ++ [a]) = spansOf b ts ++ [⟨some a, none⟩] ∧ (spansOf b ts = [] ∨ ∃ l0 l1 q, spansOf b ts = l0 ++ [⟨l1, some q⟩]) := by
  cases b
  · exact (mkS_open ts a).2 h
  · obtain ⟨h1, h2⟩ := (mkS_open ts a).1 none h
    exact ⟨h1, .inr h2⟩
theorem mkS_len (ts : List Rat) : (mkS none ts).length ≤ ts.length ∧ ∀ lo, (mkS (some lo) ts).length ≤ ts.length + 1 := by
  induction ts with
  | nil => exact ⟨Nat.le_refl _, fun lo => Nat.le_refl _⟩
  | cons t ts ih => exact ⟨ih.2 _, fun lo => by show (mkS none ts).length + 1 ≤ _; have := ih.1; simp; omega⟩
theorem set_len (b : Bool) (ts : List Rat) : (spansOf b ts).length ≤ ts.length + 1 := by
  cases b
  · have := (mkS_len ts).1; show (mkS none ts).length ≤ _; omega
  · exact (mkS_len ts).2 none
/-- toggle, whatever the set. -/
theorem toggle_v {B : Nat} {v : Value} {css : List (List Value)} {q : Rat} {b : Bool} {ts : List Rat} (hown : OwnE w B 32 8 v css) (hall : SpL w L css (spansOf b ts)) (hq : NQ w s0 (.slice A0 n0 c0) (.slice D0 m0 e0) q L) (hB : B ≤ w.heap.size) (hL2 : 2 ≤ L) (hL : L ≤ 100000) (hln : css.length ≤ 99999) :
    Calls Tryz.prog 93 #[v, .agg #[.bool s0, .slice A0 n0 c0, .slice D0 m0 e0]] w fun e w' => ∃ v' css', e = .returned v' ∧ OwnE w' B 32 8 v' css' ∧ SpL w' L css' (spansOf b (ts ++ [q])) ∧ w.grownBy w' v.ownBlock := by
  cases hf : finT b ts with
  | true =>
    obtain ⟨l0, l1, h1, h2⟩ := set_close q hf
    rw [h1] at hall
    rw [h2]
    exact toggle_close hown hall hq hL2 hL
  | false =>
    obtain ⟨h1, h2⟩ := set_open q hf
    rw [h1]
    rcases h2 with h2 | ⟨l0, l1, q1, h2⟩
    · rw [h2] at hall ⊢
      exact toggle_open0 hown hall hq hB hL2 hL
    · rw [h2] at hall ⊢
      exact toggle_open1 hown hall hq hB hL2 hL hln
theorem takeSum_bd2 {l : List (Rat × Int)} (h : Unit1 l) (q : Rat) : -((l.length : Int) - (dropAt q l).length) ≤ takeSum q l ∧ takeSum q l ≤ (l.length : Int) - (dropAt q l).length := by
  induction l with
  | nil => simp [takeSum, dropAt]
  | cons e l ih =>
    have h1 := h e (List.mem_cons_self ..)
    have h2 := ih fun x hx => h x (List.mem_cons_of_mem _ hx)
    unfold takeSum dropAt
    split <;> simp only [List.length_cons] <;> omega
theorem Fr.mid {w' : World} {a b : Nat} {cb : Array Value} {tb : TypeId} (h : Fr w w' a b) (hb : Box w b cb tb) : ∃ X, w.grownBy X (some a) ∧ X.grownBy w' (some b) ∧ Box X b cb tb := by
  have hlt := Nat.lt_of_lt_of_le hb.lt h.size
  refine ⟨{ w' with heap := w'.heap.setIfInBounds b (.cells cb tb (0, 0)) }, ⟨h.os, h.tape, h.output, ?_, fun k hk hka => ?_⟩, ⟨rfl, rfl, rfl, ?_, fun k hk hkb => ?_⟩, ?_⟩
  · show _ ≤ (w'.heap.setIfInBounds b _).size; rw [Array.size_setIfInBounds]; exact h.size
  · show (w'.heap.setIfInBounds b _)[k]? = _
    rw [Array.getElem?_setIfInBounds]
    split
    · rename_i e; subst e; exact hb.symm
    · rename_i e; exact h.block k hk (fun e' => hka (by rw [e'])) (fun e' => e e'.symm)
  · show (w'.heap.setIfInBounds b _).size ≤ _; rw [Array.size_setIfInBounds]; exact Nat.le_refl _
  · show w'.heap[k]? = (w'.heap.setIfInBounds b _)[k]?
    rw [Array.getElem?_setIfInBounds, if_neg (fun e => hkb (by rw [e]))]
  · show (w'.heap.setIfInBounds b _)[b]? = _
    rw [Array.getElem?_setIfInBounds, if_pos rfl, if_pos hlt]
theorem Firm.fr {P : World → Prop} {w' : World} {a b : Nat} {ca cb : Array Value} {ta tb : TypeId} (F : Firm P) (hp : P w) (h : Fr w w' a b) (ha : Box w a ca ta) (hca : ca.all notInt = true) (hb : Box w b cb tb) (hcb : cb.all notInt = true) : P w' := by
  obtain ⟨X, h1, h2, h3⟩ := h.mid hb
  exact F.kept (F.kept hp ha hca h1) h3 hcb h2
theorem OwnE.base {B B' k : Nat} {e : TypeId} {v : Value} {css : List (List Value)} (h : OwnE w B e k v css) (hB : B' ≤ B) : OwnE w B' e k v css := by
  refine ⟨h.1, ⟨h.2.1.1, ?_⟩, h.2.2⟩
  rcases h.2.1.2 with h1 | ⟨g, cap, cur, e1, h1, h2⟩
  · exact .inl h1
  · exact .inr ⟨g, cap, cur, e1, by omega, h2⟩
theorem reach_none {lv o : Int} {k : Nat} {c d : List (Rat × Int)} (h : leastT c d = none) : reachT lv k o c d = [] := by
  cases k with
  | zero => rfl
  | succ k => show (match leastT c d with | none => [] | some a => _) = _; rw [h]
theorem OwnE.fr {w' : World} {a b B k : Nat} {e : TypeId} {v : Value} {css : List (List Value)} (h : OwnE w B e k v css) (hf : Fr w w' a b) (ha : a < B) (hb : b < B) : OwnE w' B e k v css := by
  have key : ∀ g, v.ownBlock = some g → w'.heap[g]? = w.heap[g]? := fun g hg => by
    have h1 := h.lt g hg
    exact hf.block g h1.2 (by omega) (by omega)
  refine ⟨h.1, ⟨h.2.1.1, ?_⟩, fun g hg => ?_⟩
  · rcases h.2.1.2 with h1 | ⟨g, cap, cur, e1, h1, h2, h3⟩
    · exact .inl h1
    · exact .inr ⟨g, cap, cur, e1, h1, by rw [key g (by rw [e1]; rfl)]; exact h2, h3⟩
  · obtain ⟨cur, e', h1, h2⟩ := h.2.2 g hg
    exact ⟨cur, e', by unfold Box; rw [key g hg]; exact h1, h2⟩
/-- What holds at the head of the loop of reached. -/
def RRel (w : World) (L Bn gO gE N : Nat) (b0 : Bool) (lv : Int) (T : List Rat) (k : Nat) (t10 t11 t12 t13 : Value) (wr : World) : Prop :=
  ∃ (A1 : Option Addr) (n1 c1 : Nat) (A2 : Option Addr) (n2 c2 : Nat) (c d : List (Rat × Int)) (css : List (List Value)) (ts : List Rat) (o : Int) (gA : Nat) (s0 : Bool) (A0 : Option Addr) (n0 c0 : Nat) (D0 : Option Addr) (m0 e0 : Nat),
    t11 = .bool (decide (lv ≤ o)) ∧ finT b0 ts = decide (lv ≤ o) ∧ t12 = .pointer (some ⟨gA, 0, none⟩) ∧ t13 = .bool (leastT c d).isSome ∧ Box wr gA #[.bool s0, .slice A0 n0 c0, .slice D0 m0 e0] 28 ∧ (∀ a, leastT c d = some a → NQ w s0 (.slice A0 n0 c0) (.slice D0 m0 e0) a L) ∧
    EnS w L (.slice A1 n1 c1) c ∧ EnS w L (.slice A2 n2 c2) d ∧ Unit1 c ∧ Unit1 d ∧ Box wr gO #[.int .i64 o] 3 ∧ Box wr gE #[.slice A1 n1 c1, .slice A2 n2 c2] 131 ∧ OwnE wr Bn 32 8 t10 css ∧ t10.ownBlock ≠ some gA ∧ Bn ≤ gA ∧ SpL wr L css (spansOf b0 ts) ∧
    T = ts ++ reachT lv k o c d ∧ c.length + d.length ≤ k ∧ k ≤ N ∧ -3000 - ((N : Int) - (c.length + d.length : Nat)) ≤ o ∧ o ≤ 3000 + ((N : Int) - (c.length + d.length : Nat)) ∧ Below w.heap.size w wr
theorem reach_step {lv o : Int} {k : Nat} {c d : List (Rat × Int)} {q : Rat} (h : leastT c d = some q) : reachT lv (k + 1) o c d = if decide (lv ≤ o) = decide (lv ≤ o + takeSum q c + takeSum q d) then reachT lv k (o + takeSum q c + takeSum q d) (dropAt q c) (dropAt q d) else q :: reachT lv k (o + takeSum q c + takeSum q d) (dropAt q c) (dropAt q d) := by
  show (match leastT c d with | none => [] | some a => _) = _
  rw [h]
set_option maxRecDepth 100000 in
set_option maxHeartbeats 4000000 in
theorem reached_v {vc vd : Value} {oc od lv : Int} {c d : List (Rat × Int)} (hC : TalV w L vc oc c) (hD : TalV w L vd od d) (ho : -1000 ≤ oc ∧ oc ≤ 1000) (ho' : -1000 ≤ od ∧ od ≤ 1000) (hUc : Unit1 c) (hUd : Unit1 d) (hln : c.length + d.length ≤ 20000) (hT : (reachT lv (c.length + d.length) (oc + od) c d).length ≤ 20000) (hL2 : 2 ≤ L) (hL : L ≤ 100000) :
    Calls Tryz.prog 51 #[vc, vd, .int .i64 lv] w fun e w' => ∃ v css, e = .returned v ∧ OwnE w' w.heap.size 32 8 v css ∧ SpL w' L css (spansOf (decide (lv ≤ oc + od)) (reachT lv (c.length + d.length) (oc + od) c d)) ∧ Below w.heap.size w w' := by
  obtain ⟨A8, n8, c8, rfl, hc⟩ := hC
  obtain ⟨A9, n9, c9, rfl, hd⟩ := hD
  have hwo : IntKind.i64.wrap (oc + od) = oc + od := IntWalk.i64_in _ (by omega)
  generalize hTT : reachT lv (c.length + d.length) (oc + od) c d = T at hT ⊢
  have HTT := Lib.hid hTT
  clear hTT
  go_enter Tryz.func51, Tryz.ntmps51
  go_wp2_with fail
  obtain ⟨W0, hW, b3, b4, hbW, hszW0⟩ := boxes2 w #[.int .i64 oc, .slice A8 n8 c8] #[.int .i64 od, .slice A9 n9 c9] 93 93
  rw [hW]
  clear hW
  have H0 := hbW
  clear hbW
  go_wp2_with fail
  have szW := H0.size
  have lcb3_1 := b3.lt
  have lcb4_1 := b4.lt
  go_cut [7, 8] from 14 (fun u1_0 u1_1 wx => ∃ g1_0 g1_1, u1_0 = .pointer (some ⟨g1_0, 0, none⟩) ∧ u1_1 = .pointer (some ⟨g1_1, 0, none⟩) ∧ Box wx g1_0 #[.int .i64 (oc + od)] 3 ∧ Box wx g1_1 #[.slice A8 n8 c8, .slice A9 n9 c9] 131 ∧ W0.heap.size ≤ g1_0 ∧ W0.heap.size ≤ g1_1 ∧ g1_0 ≠ g1_1 ∧ Below W0.heap.size W0 wx)
  case first =>
    have hG := drawn_below W0
    refine wp_region_noPanic ?_
    refine wp_region_held_drew (S := (fun V => V.cell? ⟨w.heap.size, 0, none⟩ = some (.int .i64 oc) ∧ V.cell? ⟨w.heap.size, 1, none⟩ = some (.slice A8 n8 c8) ∧ V.cell? ⟨w.heap.size + 1, 0, none⟩ = some (.int .i64 od) ∧ V.cell? ⟨w.heap.size + 1, 1, none⟩ = some (.slice A9 n9 c9))) (by kernel_rfl) ((b3.below hG).and2 ((b4.below hG).all2)) (fun hHeld => ?_)
    generalize W0.drew = v1 at hG hHeld ⊢
    have sG := hG.size
    refine todo [0, 1, 2, 3, 4, 5, 6, 7, 8, 9] ?_
    iterate 10
      refine tkT ?_ rfl (by kernel_rfl) (fun _ _ _ h => h) (by rfl) (by assumption) ?_ ?_
      rotate_left
      · (intro w hSw; (try dsimp only at hSw); go_simp; (try with_reducible rfl))
      (try simp only [getElem_toArray, getElem_cons_succ, getElem_cons_zero, Act.put, setIfInBounds_toArray, set_cons_zero, set_cons_succ])
    refine tdone ?_
    refine wpAnyH_ready (rs := [10, 11]) (by kernel_rfl) (by simp) (AllReadyH.cons (o := _) rfl (fun K hK => ?_) (AllReadyH.cons (o := _) rfl (fun K hK => ?_) AllReadyH.nil))
    · go_simp
      obtain ⟨y1_1, hV, b7, hb9, szy1_1⟩ := boxes1 v1 #[.int .i64 0] 3
      rw [hV]
      clear hV
      have gly1_1 : W0.heap.size ≤ v1.heap.size := sG
      replace szy1_1 : v1.heap.size < y1_1.heap.size := by omega
      replace hG := hG.trans (hb9.mono sG)
      replace sG := hG.size
      clear hb9
      refine hK.out _ _ ((b3.below hG).and2 ((b4.below hG).all2)) (fun hHeld => ?_)
      clear hK K
      (try simp only [getElem_toArray, getElem_cons_succ, getElem_cons_zero, Act.put, setIfInBounds_toArray, set_cons_zero, set_cons_succ])
      refine rd1 11 (by kernel_rfl) rfl (fun K hK => ?_)
      go_simp
      obtain ⟨y1_2, hV, b8, hb9, szy1_2⟩ := boxes1 y1_1 #[.slice none 0 0, .slice none 0 0] 131
      rw [hV]
      clear hV
      have gly1_2 : W0.heap.size ≤ y1_1.heap.size := sG
      replace szy1_2 : y1_1.heap.size < y1_2.heap.size := by omega
      replace b7 := b7.below hb9
      replace hG := hG.trans (hb9.mono sG)
      replace sG := hG.size
      clear hb9
      refine hK.out _ _ ((b3.below hG).and2 ((b4.below hG).all2)) (fun hHeld => ?_)
      clear hK K
      (try simp only [getElem_toArray, getElem_cons_succ, getElem_cons_zero, Act.put, setIfInBounds_toArray, set_cons_zero, set_cons_succ])
      have rb70 := b7.cell 0 _ rfl
      have qb70 := b7.frozen 0
      have rb80 := b8.cell 0 _ rfl
      have qb80 := b8.frozen 0
      have rb81 := b8.cell 1 _ rfl
      have qb81 := b8.frozen 1
      refine rd1 12 (by kernel_rfl) rfl (fun K hK => ?_)
      go_simp
      clear rb70 qb70
      clear rb80 qb80
      clear rb81 qb81
      have hg := only_store1 y1_2 (v1.heap.size) (.int .i64 (oc + od))
      have hB := b7.stored1 (.int .i64 (oc + od))
      generalize hX : (y1_2.setCell ⟨v1.heap.size, 0, none⟩ (.int .i64 (oc + od))) = Y1_3 at hg hB ⊢
      clear hX
      replace b8 := b8.other hg (by omega)
      replace b7 := hB
      replace hG := below_only hG hg (by omega) sG
      replace sG := hG.size
      clear hg hB
      refine hK.out _ _ ((b3.below hG).and2 ((b4.below hG).all2)) (fun hHeld => ?_)
      clear hK K
      (try simp only [getElem_toArray, getElem_cons_succ, getElem_cons_zero, Act.put, setIfInBounds_toArray, set_cons_zero, set_cons_succ])
      have rb70 := b7.cell 0 _ rfl
      have qb70 := b7.frozen 0
      have rb80 := b8.cell 0 _ rfl
      have qb80 := b8.frozen 0
      have rb81 := b8.cell 1 _ rfl
      have qb81 := b8.frozen 1
      refine rd1 13 (by kernel_rfl) rfl (fun K hK => ?_)
      go_simp
      clear rb70 qb70
      clear rb80 qb80
      clear rb81 qb81
      have hg := only_store Y1_3 (y1_1.heap.size) (.slice A8 n8 c8) (.slice A9 n9 c9)
      have hB := b8.stored (.slice A8 n8 c8) (.slice A9 n9 c9)
      generalize hX : ((Y1_3.setCell ⟨y1_1.heap.size, 0, none⟩ (.slice A8 n8 c8)).setCell ⟨y1_1.heap.size, 1, none⟩ (.slice A9 n9 c9)) = Y1_4 at hg hB ⊢
      clear hX
      replace b7 := b7.other hg (by omega)
      replace b8 := hB
      replace hG := below_only hG hg (by omega) sG
      replace sG := hG.size
      clear hg hB
      refine hK.out _ _ ((b3.below hG).and2 ((b4.below hG).all2)) (fun hHeld => ?_)
      clear hK K
      (try simp only [getElem_toArray, getElem_cons_succ, getElem_cons_zero, Act.put, setIfInBounds_toArray, set_cons_zero, set_cons_succ])
      refine wpAnyH_done (by kernel_rfl) ?_ _
      refine NoPanic.normal ?_
      go_wp2_with fail
      go_meet
      exact ⟨v1.heap.size, y1_1.heap.size, rfl, rfl, b7, b8, (by omega), (by omega), (by omega), hG⟩
    · go_simp
      obtain ⟨y1_5, hV, b8, hb9, szy1_5⟩ := boxes1 v1 #[.slice none 0 0, .slice none 0 0] 131
      rw [hV]
      clear hV
      have gly1_5 : W0.heap.size ≤ v1.heap.size := sG
      replace szy1_5 : v1.heap.size < y1_5.heap.size := by omega
      replace hG := hG.trans (hb9.mono sG)
      replace sG := hG.size
      clear hb9
      refine hK.out _ _ ((b3.below hG).and2 ((b4.below hG).all2)) (fun hHeld => ?_)
      clear hK K
      (try simp only [getElem_toArray, getElem_cons_succ, getElem_cons_zero, Act.put, setIfInBounds_toArray, set_cons_zero, set_cons_succ])
      refine rd1 10 (by kernel_rfl) rfl (fun K hK => ?_)
      go_simp
      obtain ⟨y1_6, hV, b7, hb9, szy1_6⟩ := boxes1 y1_5 #[.int .i64 0] 3
      rw [hV]
      clear hV
      have gly1_6 : W0.heap.size ≤ y1_5.heap.size := sG
      replace szy1_6 : y1_5.heap.size < y1_6.heap.size := by omega
      replace b8 := b8.below hb9
      replace hG := hG.trans (hb9.mono sG)
      replace sG := hG.size
      clear hb9
      refine hK.out _ _ ((b3.below hG).and2 ((b4.below hG).all2)) (fun hHeld => ?_)
      clear hK K
      (try simp only [getElem_toArray, getElem_cons_succ, getElem_cons_zero, Act.put, setIfInBounds_toArray, set_cons_zero, set_cons_succ])
      have rb80 := b8.cell 0 _ rfl
      have qb80 := b8.frozen 0
      have rb81 := b8.cell 1 _ rfl
      have qb81 := b8.frozen 1
      have rb70 := b7.cell 0 _ rfl
      have qb70 := b7.frozen 0
      refine rd1 12 (by kernel_rfl) rfl (fun K hK => ?_)
      go_simp
      clear rb80 qb80
      clear rb81 qb81
      clear rb70 qb70
      have hg := only_store1 y1_6 (y1_5.heap.size) (.int .i64 (oc + od))
      have hB := b7.stored1 (.int .i64 (oc + od))
      generalize hX : (y1_6.setCell ⟨y1_5.heap.size, 0, none⟩ (.int .i64 (oc + od))) = Y1_7 at hg hB ⊢
      clear hX
      replace b8 := b8.other hg (by omega)
      replace b7 := hB
      replace hG := below_only hG hg (by omega) sG
      replace sG := hG.size
      clear hg hB
      refine hK.out _ _ ((b3.below hG).and2 ((b4.below hG).all2)) (fun hHeld => ?_)
      clear hK K
      (try simp only [getElem_toArray, getElem_cons_succ, getElem_cons_zero, Act.put, setIfInBounds_toArray, set_cons_zero, set_cons_succ])
      have rb80 := b8.cell 0 _ rfl
      have qb80 := b8.frozen 0
      have rb81 := b8.cell 1 _ rfl
      have qb81 := b8.frozen 1
      have rb70 := b7.cell 0 _ rfl
      have qb70 := b7.frozen 0
      refine rd1 13 (by kernel_rfl) rfl (fun K hK => ?_)
      go_simp
      clear rb80 qb80
      clear rb81 qb81
      clear rb70 qb70
      have hg := only_store Y1_7 (v1.heap.size) (.slice A8 n8 c8) (.slice A9 n9 c9)
      have hB := b8.stored (.slice A8 n8 c8) (.slice A9 n9 c9)
      generalize hX : ((Y1_7.setCell ⟨v1.heap.size, 0, none⟩ (.slice A8 n8 c8)).setCell ⟨v1.heap.size, 1, none⟩ (.slice A9 n9 c9)) = Y1_8 at hg hB ⊢
      clear hX
      replace b7 := b7.other hg (by omega)
      replace b8 := hB
      replace hG := below_only hG hg (by omega) sG
      replace sG := hG.size
      clear hg hB
      refine hK.out _ _ ((b3.below hG).and2 ((b4.below hG).all2)) (fun hHeld => ?_)
      clear hK K
      (try simp only [getElem_toArray, getElem_cons_succ, getElem_cons_zero, Act.put, setIfInBounds_toArray, set_cons_zero, set_cons_succ])
      refine wpAnyH_done (by kernel_rfl) ?_ _
      refine NoPanic.normal ?_
      go_wp2_with fail
      go_meet
      exact ⟨y1_5.heap.size, v1.heap.size, rfl, rfl, b7, b8, (by omega), (by omega), (by omega), hG⟩
  obtain ⟨g1_0, g1_1, rfl, rfl, b7, b8, glg1_0, glg1_1, gn1, hG⟩ := hcut
  replace b3 := b3.below hG
  replace b4 := b4.below hG
  replace H0 := H0.trans (hG.mono H0.size)
  clear hG
  obtain ⟨gO, hgO⟩ : ∃ g, g = g1_0 := ⟨_, rfl⟩
  obtain ⟨gE, hgE⟩ : ∃ g, g = g1_1 := ⟨_, rfl⟩
  rw [← hgO] at b7
  rw [← hgE] at b8
  have hne : gE ≠ gO := by omega
  have hO : w.heap.size ≤ gO := by omega
  have hE : w.heap.size ≤ gE := by omega
  rw [← hgO, ← hgE]
  clear b3 b4 hgO hgE glg1_0 glg1_1 gn1
  have lO := b7.lt
  have lE := b8.lt
  obtain ⟨Bn, hBn⟩ : ∃ n, n = wc.heap.size := ⟨_, rfl⟩
  have hOB : gO < Bn := by omega
  have hEB : gE < Bn := by omega
  have hBc : Bn ≤ wc.heap.size := by omega
  have hBw : w.heap.size ≤ Bn := by have := H0.size; omega
  clear hBn lO lE
  obtain ⟨b0, hb0⟩ : ∃ b, decide (lv ≤ oc + od) = b := ⟨_, rfl⟩
  have z7 := b7.cell 0 _ rfl
  go_upto_if 28 with fail
  clear z7
  go_cut [10] from 14 (fun t10 wx => ∃ css, OwnE wx Bn 32 8 t10 css ∧ SpL wx L css (spansOf b0 []) ∧ Box wx gO #[.int .i64 (oc + od)] 3 ∧ Box wx gE #[.slice A8 n8 c8, .slice A9 n9 c9] 131 ∧ Bn ≤ wx.heap.size ∧ Below w.heap.size w wx)
  case first =>
    cases b0
    · go_wp2_with fail
      go_meet
      exact ⟨[], OwnE.nil _ _ _ _, trivial, b7, b8, hBc, H0⟩
    · have hq1 : ([.bool false, .slice none 0 0, .slice none 0 0, .bool false, .slice none 0 0, .slice none 0 0, .bool true, .bool true] : List Value).all (fun u => u.oneCell' && notInt u) = true := by simp [notInt, Value.oneCell']
      go_wp2_with (at_builtin; refine wpList_append_row (v := .slice none 0 0) (css := []) rfl _ _ rfl elem_span Bn [.bool false, .slice none 0 0, .slice none 0 0, .bool false, .slice none 0 0, .slice none 0 0, .bool true, .bool true] rfl (OwnE.nil _ _ _ _) rfl rfl hq1 (Nat.zero_le _) hBc ?_; intro v1 w1 hown1 hg1)
      have hbz : Below wc.heap.size wc w1 := ⟨hg1.os, hg1.tape, hg1.output, hg1.size, fun j hj => hg1.block j hj (by intro he; cases he)⟩
      go_meet
      exact ⟨_, hown1, ⟨⟨_, _, _, _, _, _, _, _, _, _, _, _, _, _, _, _, rfl, .inr ⟨rfl, rfl, rfl, raw_nil _ _, raw_nil _ _⟩, .inr ⟨rfl, rfl, rfl, raw_nil _ _, raw_nil _ _⟩⟩, trivial⟩, b7.below hbz, b8.below hbz, Nat.le_trans hBc hg1.size, H0.trans (hbz.mono H0.size)⟩
  case rest =>
    clear b7 b8 H0 hBc
    obtain ⟨css, hown, hall, b7, b8, hBs, H0⟩ := hcut
    obtain ⟨y0, y1⟩ := b8.cells2
    go_wp2_with fail
    clear y0 y1
    refine (least_v H0 hc hd hL).mono ?_
    rintro e w1 ⟨s0, A0, n0, c0, D0, m0, e0, rfl, hA, hb⟩
    replace hown := hown.below hb
    replace hall := hall.below hb
    replace b7 := b7.below hb
    replace b8 := b8.below hb
    replace H0 := H0.trans (hb.mono H0.size)
    replace hBs := Nat.le_trans hBs hb.size
    clear hb
    obtain ⟨W2, hW, bA, hbW, hsz⟩ := boxes1 w1 #[.bool s0, .slice A0 n0 c0, .slice D0 m0 e0] 28
    clear hsz
    have hnA := hown.ne' (Nat.le_refl _)
    replace hown := hown.below hbW
    replace hall := hall.below hbW
    replace b7 := b7.below hbW
    replace b8 := b8.below hbW
    replace H0 := H0.trans (hbW.mono H0.size)
    go_wp2_with fail
    clear hW hbW
    go_loopg [10, 11, 12, 13] (c.length + d.length) (fun k t10 t11 t12 t13 wr => RRel w L Bn gO gE (c.length + d.length) b0 lv T k t10 t11 t12 t13 wr)
    case atStart => exact ⟨_, _, _, _, _, _, c, d, css, [], oc + od, _, _, _, _, _, _, _, _, (by first | rfl | rw [hb0]), hb0.symm, rfl, rfl, bA, hA, hc, hd, hUc, hUd, b7, b8, hown, hnA, hBs, hall, HTT.out.symm, Nat.le_refl _, Nat.le_refl _, by omega, by omega, H0⟩
    case round =>
      clear bA hA b7 b8 hown hnA hBs hall H0
      obtain ⟨A1, n1, c1, A2, n2, c2, cc, dd, css, ts, o, gA, s0, A0, n0, c0, D0, m0, e0, rfl, hfin, rfl, rfl, bA, hA, hC1, hD1, hU1, hU2, b7, b8, hown, hnA, hBA, hall, hTe, hk, hkN, ho1, ho2, H0⟩ := hrel
      have HFI := Lib.hid hfin
      have HTE := Lib.hid hTe
      have hln1 : css.length ≤ 99999 := by have h1 := All2.len hall; have h2 := set_len b0 ts; have h3 : T.length = _ := congrArg List.length hTe; rw [List.length_append] at h3; omega
      clear hfin hTe
      have HB9 := Lib.hid hb0
      clear hb0
      rcases hl : leastT cc dd with _ | a
      · have HNO := Lib.hid (reach_none (lv := lv) (o := o) (k := gk) hl)
        clear hl hA
        go_wp2_with fail
        go_ret
        refine ⟨_, css, rfl, hown.base hBw, ?_⟩
        have h1 := HTE.out
        rw [HNO.out, List.append_nil] at h1
        rw [h1, HB9.out]; exact ⟨hall, H0⟩
      · have hlen := least_len hl
        obtain ⟨j, rfl⟩ : ∃ j, gk = j + 1 := ⟨gk - 1, by omega⟩
        have HST := Lib.hid (reach_step (lv := lv) (o := o) (k := j) hl)
        have hAa := hA a hl
        obtain ⟨z0, z1, z2⟩ := bA.cells3
        clear hl hA
        go_wp2_with fail
        clear z0 z1 z2
        refine (pass_v hC1 hD1 H0 hE hO hne b8 b7 hAa hU1 hU2 (by omega) (by omega) (by omega) (by omega) hL).mono ?_
        rintro e w3 ⟨rfl, ⟨vc', vd', hC2, hD2, b82⟩, b72, hF⟩
        obtain ⟨A3, c3, rfl, hx1, hx2⟩ := hC2.form
        obtain ⟨A4, c4, rfl, hx3, hx4⟩ := hD2.form
        clear hx1 hx2 hx3 hx4
        have hown2 := hown.fr hF hEB hOB
        have hall2 := (firm_spl L css _).fr hall hF b8 (by simp [notInt]) b7 (by simp [notInt])
        have bA2 := hF.box bA (by omega) (by omega)
        have H02 := hF.under H0 H0.size hE hO
        have hBs3 : Bn ≤ w3.heap.size := by have h1 := bA.lt; have h2 := hF.size; omega
        have hs1 := takeSum_bd2 hU1 a
        have hs2 := takeSum_bd2 hU2 a
        have hd1 := dropAt_len a cc
        have hd2 := dropAt_len a dd
        have hU3 := hU1.drop a
        have hU4 := hU2.drop a
        clear hown hall bA b7 b8 H0 hF hC1 hD1 hU1 hU2
        generalize hod : o + takeSum a cc + takeSum a dd = o2 at b72
        have HOD := Lib.hid hod
        have ho3 : -3000 - ((c.length + d.length : Nat) - ((dropAt a cc).length + (dropAt a dd).length : Nat) : Int) ≤ o2 := by omega
        have ho4 : o2 ≤ 3000 + ((c.length + d.length : Nat) - ((dropAt a cc).length + (dropAt a dd).length : Nat) : Int) := by omega
        have hk2 : (dropAt a cc).length + (dropAt a dd).length ≤ j := by omega
        clear hod hs1 hs2
        generalize hcc : dropAt a cc = cc2 at *
        generalize hdd : dropAt a dd = dd2 at *
        clear hcc hdd hlen hd1 hd2
        obtain ⟨p, hp⟩ : ∃ p, decide (lv ≤ o) = p := ⟨_, rfl⟩
        obtain ⟨p', hp'⟩ : ∃ p, decide (lv ≤ o2) = p := ⟨_, rfl⟩
        have y7 := b72.cell 0 _ rfl
        cases p <;> cases p'
        · have z0 := bA2.cell 0 _ rfl
          have z1 := bA2.cell 1 _ rfl
          have z2 := bA2.cell 2 _ rfl
          obtain ⟨W5, hW, bN, hbW, hsz⟩ := boxes1 w3 #[.bool s0, .slice A0 n0 c0, .slice D0 m0 e0] 28
          clear hsz
          have hnN := hown2.ne' (Nat.le_refl _)
          replace hown2 := hown2.below hbW
          replace hall2 := hall2.below hbW
          replace b72 := b72.below hbW
          replace b82 := b82.below hbW
          replace H02 := H02.trans (hbW.mono H02.size)
          obtain ⟨v0, v1⟩ := b82.cells2
          go_wp2_with fail
          clear z0 z1 z2 v0 v1 hW hbW y7
          refine (least_v H02 hC2 hD2 hL).mono ?_
          rintro e w6 ⟨s1, A5, n5, c5, D5, m5, e5, rfl, hA2, hb⟩
          replace hown2 := hown2.below hb
          replace hall2 := hall2.below hb
          replace b72 := b72.below hb
          replace b82 := b82.below hb
          replace bN := bN.below hb
          replace H02 := H02.trans (hb.mono H02.size)
          clear hb
          have z0 := bN.cell 0 _ rfl
          have zf0 := bN.frozen 0
          have z1 := bN.cell 1 _ rfl
          have zf1 := bN.frozen 1
          have z2 := bN.cell 2 _ rfl
          have zf2 := bN.frozen 2
          go_wp2_with fail
          clear z0 z1 z2 zf0 zf1 zf2
          have hg := only_store3 w6 w3.heap.size (.bool s1) (.slice A5 n5 c5) (.slice D5 m5 e5)
          have hB := bN.stored3 (.bool s1) (.slice A5 n5 c5) (.slice D5 m5 e5)
          have hoN := hown2.box bN hg hnN
          have haN := (firm_spl L _ _).kept hall2 bN (by simp [notInt]) hg
          have lz := Nat.le_trans hBs3 (Nat.le_refl w3.heap.size)
          have b7N := b72.other hg (by omega)
          have b8N := b82.other hg (by omega)
          have hHN := below_only H02 hg (by omega) H02.size
          generalize hX : ((w6.setCell ⟨w3.heap.size, 0, none⟩ (.bool s1)).setCell ⟨w3.heap.size, 1, none⟩ (.slice A5 n5 c5)).setCell ⟨w3.heap.size, 2, none⟩ (.slice D5 m5 e5) = X9 at hg hB hoN haN b7N b8N hHN ⊢
          clear hX hg bN hown2 hall2 b72 b82 H02
          have HT2 : Hid (T = ts ++ reachT lv j o2 cc2 dd2) := Lib.hid (by rw [HTE.out, HST.out, HOD.out, hp, hp']; simp)
          have HF2 : Hid (finT b0 ts = decide (lv ≤ o2)) := Lib.hid (by rw [HFI.out, hp, hp'])
          go_roundg j
          case measure => omega
          case rel => exact ⟨_, _, _, _, _, _, cc2, dd2, _, ts, o2, _, _, _, _, _, _, _, _, (by first | rfl | rw [hp']), HF2.out, rfl, rfl, hB, hA2, hC2, hD2, hU3, hU4, b7N, b8N, hoN, hnN, lz, haN, HT2.out, hk2, by omega, ho3, ho4, hHN⟩
        · have z0 := bA2.cell 0 _ rfl
          have z1 := bA2.cell 1 _ rfl
          have z2 := bA2.cell 2 _ rfl
          go_wp2_with fail
          clear z0 z1 z2 y7
          refine (toggle_v hown2 hall2 (hAa.below H02) hBs3 hL2 hL hln1).mono ?_
          rintro e w4 ⟨v4, css4, rfl, hown4, hall4, hg4⟩
          have b74 := b72.own hg4 (hown2.ne hOB)
          have b84 := b82.own hg4 (hown2.ne hEB)
          have bA4 := bA2.own hg4 hnA
          have H04 := H02.trans ((hown2.trod hg4 hBs3).mono hBw)
          have hBs4 : Bn ≤ w4.heap.size := Nat.le_trans hBs3 hg4.size
          clear hown2 hall2 b72 b82 bA2 H02 hg4
          have y7 : True := trivial
          obtain ⟨z0, z1, z2⟩ := bA4.cells3
          obtain ⟨W5, hW, bN, hbW, hsz⟩ := boxes1 w4 #[.bool s0, .slice A0 n0 c0, .slice D0 m0 e0] 28
          clear hsz
          have hnN := hown4.ne' (Nat.le_refl _)
          replace hown4 := hown4.below hbW
          replace hall4 := hall4.below hbW
          replace b74 := b74.below hbW
          replace b84 := b84.below hbW
          replace H04 := H04.trans (hbW.mono H04.size)
          obtain ⟨v0, v1⟩ := b84.cells2
          go_wp2_with fail
          clear z0 z1 z2 v0 v1 hW hbW y7
          refine (least_v H04 hC2 hD2 hL).mono ?_
          rintro e w6 ⟨s1, A5, n5, c5, D5, m5, e5, rfl, hA2, hb⟩
          replace hown4 := hown4.below hb
          replace hall4 := hall4.below hb
          replace b74 := b74.below hb
          replace b84 := b84.below hb
          replace bN := bN.below hb
          replace H04 := H04.trans (hb.mono H04.size)
          clear hb
          have z0 := bN.cell 0 _ rfl
          have zf0 := bN.frozen 0
          have z1 := bN.cell 1 _ rfl
          have zf1 := bN.frozen 1
          have z2 := bN.cell 2 _ rfl
          have zf2 := bN.frozen 2
          go_wp2_with fail
          clear z0 z1 z2 zf0 zf1 zf2
          have hg := only_store3 w6 w4.heap.size (.bool s1) (.slice A5 n5 c5) (.slice D5 m5 e5)
          have hB := bN.stored3 (.bool s1) (.slice A5 n5 c5) (.slice D5 m5 e5)
          have hoN := hown4.box bN hg hnN
          have haN := (firm_spl L _ _).kept hall4 bN (by simp [notInt]) hg
          have lz := Nat.le_trans hBs4 (Nat.le_refl w4.heap.size)
          have b7N := b74.other hg (by omega)
          have b8N := b84.other hg (by omega)
          have hHN := below_only H04 hg (by omega) H04.size
          generalize hX : ((w6.setCell ⟨w4.heap.size, 0, none⟩ (.bool s1)).setCell ⟨w4.heap.size, 1, none⟩ (.slice A5 n5 c5)).setCell ⟨w4.heap.size, 2, none⟩ (.slice D5 m5 e5) = X9 at hg hB hoN haN b7N b8N hHN ⊢
          clear hX hg bN hown4 hall4 b74 b84 H04
          have HT2 : Hid (T = (ts ++ [a]) ++ reachT lv j o2 cc2 dd2) := Lib.hid (by rw [HTE.out, HST.out, HOD.out, hp, hp']; simp)
          have HF2 : Hid (finT b0 (ts ++ [a]) = decide (lv ≤ o2)) := Lib.hid (by rw [fin_snoc]; rw [HFI.out, hp, hp']; rfl)
          go_roundg j
          case measure => omega
          case rel => exact ⟨_, _, _, _, _, _, cc2, dd2, _, (ts ++ [a]), o2, _, _, _, _, _, _, _, _, (by first | rfl | rw [hp']), HF2.out, rfl, rfl, hB, hA2, hC2, hD2, hU3, hU4, b7N, b8N, hoN, hnN, lz, haN, HT2.out, hk2, by omega, ho3, ho4, hHN⟩
        · have z0 := bA2.cell 0 _ rfl
          have z1 := bA2.cell 1 _ rfl
          have z2 := bA2.cell 2 _ rfl
          go_wp2_with fail
          clear z0 z1 z2 y7
          refine (toggle_v hown2 hall2 (hAa.below H02) hBs3 hL2 hL hln1).mono ?_
          rintro e w4 ⟨v4, css4, rfl, hown4, hall4, hg4⟩
          have b74 := b72.own hg4 (hown2.ne hOB)
          have b84 := b82.own hg4 (hown2.ne hEB)
          have bA4 := bA2.own hg4 hnA
          have H04 := H02.trans ((hown2.trod hg4 hBs3).mono hBw)
          have hBs4 : Bn ≤ w4.heap.size := Nat.le_trans hBs3 hg4.size
          clear hown2 hall2 b72 b82 bA2 H02 hg4
          have y7 : True := trivial
          obtain ⟨z0, z1, z2⟩ := bA4.cells3
          obtain ⟨W5, hW, bN, hbW, hsz⟩ := boxes1 w4 #[.bool s0, .slice A0 n0 c0, .slice D0 m0 e0] 28
          clear hsz
          have hnN := hown4.ne' (Nat.le_refl _)
          replace hown4 := hown4.below hbW
          replace hall4 := hall4.below hbW
          replace b74 := b74.below hbW
          replace b84 := b84.below hbW
          replace H04 := H04.trans (hbW.mono H04.size)
          obtain ⟨v0, v1⟩ := b84.cells2
          go_wp2_with fail
          clear z0 z1 z2 v0 v1 hW hbW y7
          refine (least_v H04 hC2 hD2 hL).mono ?_
          rintro e w6 ⟨s1, A5, n5, c5, D5, m5, e5, rfl, hA2, hb⟩
          replace hown4 := hown4.below hb
          replace hall4 := hall4.below hb
          replace b74 := b74.below hb
          replace b84 := b84.below hb
          replace bN := bN.below hb
          replace H04 := H04.trans (hb.mono H04.size)
          clear hb
          have z0 := bN.cell 0 _ rfl
          have zf0 := bN.frozen 0
          have z1 := bN.cell 1 _ rfl
          have zf1 := bN.frozen 1
          have z2 := bN.cell 2 _ rfl
          have zf2 := bN.frozen 2
          go_wp2_with fail
          clear z0 z1 z2 zf0 zf1 zf2
          have hg := only_store3 w6 w4.heap.size (.bool s1) (.slice A5 n5 c5) (.slice D5 m5 e5)
          have hB := bN.stored3 (.bool s1) (.slice A5 n5 c5) (.slice D5 m5 e5)
          have hoN := hown4.box bN hg hnN
          have haN := (firm_spl L _ _).kept hall4 bN (by simp [notInt]) hg
          have lz := Nat.le_trans hBs4 (Nat.le_refl w4.heap.size)
          have b7N := b74.other hg (by omega)
          have b8N := b84.other hg (by omega)
          have hHN := below_only H04 hg (by omega) H04.size
          generalize hX : ((w6.setCell ⟨w4.heap.size, 0, none⟩ (.bool s1)).setCell ⟨w4.heap.size, 1, none⟩ (.slice A5 n5 c5)).setCell ⟨w4.heap.size, 2, none⟩ (.slice D5 m5 e5) = X9 at hg hB hoN haN b7N b8N hHN ⊢
          clear hX hg bN hown4 hall4 b74 b84 H04
          have HT2 : Hid (T = (ts ++ [a]) ++ reachT lv j o2 cc2 dd2) := Lib.hid (by rw [HTE.out, HST.out, HOD.out, hp, hp']; simp)
          have HF2 : Hid (finT b0 (ts ++ [a]) = decide (lv ≤ o2)) := Lib.hid (by rw [fin_snoc]; rw [HFI.out, hp, hp']; rfl)
          go_roundg j
          case measure => omega
          case rel => exact ⟨_, _, _, _, _, _, cc2, dd2, _, (ts ++ [a]), o2, _, _, _, _, _, _, _, _, (by first | rfl | rw [hp']), HF2.out, rfl, rfl, hB, hA2, hC2, hD2, hU3, hU4, b7N, b8N, hoN, hnN, lz, haN, HT2.out, hk2, by omega, ho3, ho4, hHN⟩
        · have z0 := bA2.cell 0 _ rfl
          have z1 := bA2.cell 1 _ rfl
          have z2 := bA2.cell 2 _ rfl
          obtain ⟨W5, hW, bN, hbW, hsz⟩ := boxes1 w3 #[.bool s0, .slice A0 n0 c0, .slice D0 m0 e0] 28
          clear hsz
          have hnN := hown2.ne' (Nat.le_refl _)
          replace hown2 := hown2.below hbW
          replace hall2 := hall2.below hbW
          replace b72 := b72.below hbW
          replace b82 := b82.below hbW
          replace H02 := H02.trans (hbW.mono H02.size)
          obtain ⟨v0, v1⟩ := b82.cells2
          go_wp2_with fail
          clear z0 z1 z2 v0 v1 hW hbW y7
          refine (least_v H02 hC2 hD2 hL).mono ?_
          rintro e w6 ⟨s1, A5, n5, c5, D5, m5, e5, rfl, hA2, hb⟩
          replace hown2 := hown2.below hb
          replace hall2 := hall2.below hb
          replace b72 := b72.below hb
          replace b82 := b82.below hb
          replace bN := bN.below hb
          replace H02 := H02.trans (hb.mono H02.size)
          clear hb
          have z0 := bN.cell 0 _ rfl
          have zf0 := bN.frozen 0
          have z1 := bN.cell 1 _ rfl
          have zf1 := bN.frozen 1
          have z2 := bN.cell 2 _ rfl
          have zf2 := bN.frozen 2
          go_wp2_with fail
          clear z0 z1 z2 zf0 zf1 zf2
          have hg := only_store3 w6 w3.heap.size (.bool s1) (.slice A5 n5 c5) (.slice D5 m5 e5)
          have hB := bN.stored3 (.bool s1) (.slice A5 n5 c5) (.slice D5 m5 e5)
          have hoN := hown2.box bN hg hnN
          have haN := (firm_spl L _ _).kept hall2 bN (by simp [notInt]) hg
          have lz := Nat.le_trans hBs3 (Nat.le_refl w3.heap.size)
          have b7N := b72.other hg (by omega)
          have b8N := b82.other hg (by omega)
          have hHN := below_only H02 hg (by omega) H02.size
          generalize hX : ((w6.setCell ⟨w3.heap.size, 0, none⟩ (.bool s1)).setCell ⟨w3.heap.size, 1, none⟩ (.slice A5 n5 c5)).setCell ⟨w3.heap.size, 2, none⟩ (.slice D5 m5 e5) = X9 at hg hB hoN haN b7N b8N hHN ⊢
          clear hX hg bN hown2 hall2 b72 b82 H02
          have HT2 : Hid (T = ts ++ reachT lv j o2 cc2 dd2) := Lib.hid (by rw [HTE.out, HST.out, HOD.out, hp, hp']; simp)
          have HF2 : Hid (finT b0 ts = decide (lv ≤ o2)) := Lib.hid (by rw [HFI.out, hp, hp'])
          go_roundg j
          case measure => omega
          case rel => exact ⟨_, _, _, _, _, _, cc2, dd2, _, ts, o2, _, _, _, _, _, _, _, _, (by first | rfl | rw [hp']), HF2.out, rfl, rfl, hB, hA2, hC2, hD2, hU3, hU4, b7N, b8N, hoN, hnN, lz, haN, HT2.out, hk2, by omega, ho3, ho4, hHN⟩
end
end Go.Proofs.YtpgkkkodniiilaaGreatDoor
