/-
  SpO, SpO2 in one text.
-/
import Derived.Test.YtpgkkkodniiilaaGreatDoorWSq
import Derived.Test.YtpgkkkodniiilaaGreatDoorWSpN
import Derived.Test.YtpgkkkodniiilaaGreatDoorWTT
import Derived.Deep.Upon
import Derived.IntWalk
import Derived.Deep.Cut
namespace Go.Proofs.YtpgkkkodniiilaaGreatDoor
open Go.RowKit
section
variable {w w' : World} {B : Nat} {e t : TypeId} {k : Nat} {v u : Value} {css css' : List (List Value)} {A A' : Option Addr} {n c n' c' : Nat}
theorem flat_inv (hk : ∀ cs ∈ css, cs.length = k) : ∀ {j : Nat} {u : Value}, css.flatten[j]? = some u → ∃ i j' cs, j = i * k + j' ∧ css[i]? = some cs ∧ cs[j']? = some u := by
  induction css with
  | nil => intro j u h; cases h
  | cons a css ih =>
    intro j u h
    have ha := hk a (List.mem_cons_self ..)
    rw [List.flatten_cons] at h
    by_cases hj : j < a.length
    · rw [List.getElem?_append_left hj] at h
      exact ⟨0, j, a, by omega, rfl, h⟩
    · rw [List.getElem?_append_right (by omega)] at h
      obtain ⟨i, j', cs, e1, e2, e3⟩ := ih (fun x hx => hk x (List.mem_cons_of_mem _ hx)) h
      exact ⟨i + 1, j', cs, by rw [Nat.succ_mul]; omega, e2, e3⟩
theorem flat_len (hk : ∀ cs ∈ css, cs.length = k) : css.flatten.length = css.length * k := by
  induction css with
  | nil => simp
  | cons a css ih => rw [List.flatten_cons, List.length_append, ih fun x hx => hk x (List.mem_cons_of_mem _ hx), hk a (List.mem_cons_self ..), List.length_cons, Nat.succ_mul]; omega
theorem ReadR.flat (h : ReadR w k (.slice A n c) css) : n = css.length ∧ n ≤ c ∧ css.flatten.length = n * k ∧ (A = none → css = []) ∧ ∀ a, A = some a → ∀ j u, css.flatten[j]? = some u → w.cell? (a.add j) = some u := by
  obtain ⟨h1, A', c', h2, h3, h4, h5⟩ := h
  injection h2 with e1 e2 e3
  subst e1 e2 e3
  refine ⟨rfl, h3, flat_len h1, fun hn => ?_, fun a ha j u hu => ?_⟩
  · refine Classical.byContradiction fun hne => ?_
    obtain ⟨g, o, e1, _⟩ := h5 hne
    rw [hn] at e1; cases e1
  · have hne : css ≠ [] := fun h0 => by subst h0; cases hu
    obtain ⟨g, o, e1, h6⟩ := h5 hne
    rw [ha] at e1
    injection e1 with e1
    subst e1
    obtain ⟨i, j', cs, e2, e3, e4⟩ := flat_inv h1 hu
    rw [Addr.add_lit, e2]
    exact h6 i cs e3 j' u e4
theorem ReadR.src (hT : ElemT t e k) (h : ReadR w k (.slice A n c) css) (hone : ∀ cs ∈ css, ∀ u ∈ cs, u.oneCell' = true) : Src Tryz.prog k t (.slice A n c) n css.flatten w := by
  obtain ⟨h1, h2, h3, h4, h5⟩ := h.flat
  cases A with
  | none =>
    have h0 := h4 rfl
    subst h0
    subst h1
    exact Src.ofNil w hT.1 c
  | some a =>
    refine Src.ofSlice w hT.1 a n c css.flatten h3 (h5 a rfl) fun u hu => ?_
    obtain ⟨cs, h6, h7⟩ := List.mem_flatten.1 hu
    exact hone cs h6 u h7
theorem ReadR.shape (h : ReadR w k v css) : ∃ A c, v = .slice A css.length c ∧ css.length ≤ c ∧ c ≤ maxLen := by
  obtain ⟨_, A, c, h2, h3, h4, _⟩ := h
  exact ⟨A, c, h2, h3, h4⟩
theorem ReadR.hold (h : ReadR w k (.slice A n c) css) : (Builtin.firstCells k n (.slice A n c)).run Tryz.prog w = .ok css.flatten.toArray w := by
  obtain ⟨h1, h2, h3, h4, h5⟩ := h.flat
  cases A with
  | none =>
    have h0 := h4 rfl
    subst h0
    subst h1
    exact run_firstCells_none w k 0 0 c
  | some a => exact run_firstCells_some w k n a n c css.flatten h3 (h5 a rfl)
/-- append where there is no room, or nothing: what it makes is read. -/
theorem run_append_read {ty : TypeId} (hT : ElemT t e k) (h : ReadR w k (.slice A n c) css) (h' : ReadR w k u css') (hone : ∀ cs ∈ css', ∀ u ∈ cs, u.oneCell' = true) (hg : css' = [] ∨ c < n + css'.length) (hn : n + css'.length ≤ 200000) :
    ∃ v' w', (Builtin.append_ #[t, t] ty #[.slice A n c, u]).run Tryz.prog w = .ok v' w' ∧ ReadR w' k v' (css ++ css') ∧ Below w.heap.size w w' := by
  obtain ⟨A', c', rfl, hc1, hc2⟩ := h'.shape
  have hs := h'.src hT hone
  obtain ⟨h1, h2, h3, h4, h5⟩ := h.flat
  obtain ⟨ht, hk, i, z, hi, hz, hsz, hby, hzs, hzn⟩ := hT
  subst hsz
  rcases hg with rfl | hg
  · have := run_append_nothing (P := Tryz.prog) w t t ty e i ht hi A n c h2 _ hs
    exact ⟨_, _, this, by simpa using h, Below.refl _ _⟩
  · have hbt : (n + css'.length) * i.bytes ≤ 140737488355328 := by have h := Nat.mul_le_mul hn hby; omega
    have h63 : ((n + css'.length : Nat) : Int) ≤ 9223372036854775807 := by omega
    have hr := run_append_grow_src (P := Tryz.prog) w t t ty e i z ht hi hz A n c css.flatten (by have hw : ReadR w.drew i.size (.slice A n c) css := h.below ((Below.refl _ _).drew); exact hw.hold) _ css'.length css'.flatten hs hg h63 (growslice_fits hg hbt)
    have hge := grownCap_ge w (n + css'.length) c e
    have hcm := grownCap_le_maxLen w (n + css'.length) c e (by unfold maxLen; omega)
    refine ⟨_, _, hr, ⟨fun cs hm => ?_, _, _, by rw [List.length_append, ← h1], by rw [List.length_append, ← h1]; exact hge, hcm, fun _ => ⟨_, 0, rfl, fun i' cs hi' j x hx => ?_⟩⟩, ((Below.refl _ _).drew).alloc (Nat.le_refl _) _⟩
    · rcases List.mem_append.1 hm with hm | hm
      · exact h.1 cs hm
      · exact h'.1 cs hm
    · have hall : ∀ cs ∈ css ++ css', cs.length = i.size := fun cs hm => by
        rcases List.mem_append.1 hm with hm | hm
        · exact h.1 cs hm
        · exact h'.1 cs hm
      have hf := flat_get hall hi' hx
      rw [List.flatten_append] at hf
      have e1 := World.cell?_alloc_new w.drew ((css.flatten ++ css'.flatten).toArray ++ Builtin.zeroCells z.cells (grownCap w (n + css'.length) c e - (n + css'.length))) e (i' * i.size + j)
      rw [Nat.zero_add]
      refine Eq.trans e1 ?_
      have hlt := (List.getElem?_eq_some_iff.1 hf).1
      rw [Array.getElem?_append_left (by simpa using hlt), List.getElem?_toArray]
      exact hf
/-- append of several elements to a slice of the call's own. -/
theorem run_append_rows {ty : TypeId} (hT : ElemT t e k) (hv : OwnE w B e k v css) (h' : ReadR w k u css') (hall : ∀ cs ∈ css', ∀ u ∈ cs, u.oneCell' = true ∧ notInt u = true) (hn : css.length + css'.length ≤ 200000) (hB : B ≤ w.heap.size) :
    ∃ v' w', (Builtin.append_ #[t, t] ty #[v, u]).run Tryz.prog w = .ok v' w' ∧ OwnE w' B e k v' (css ++ css') ∧ w.grownBy w' v.ownBlock := by
  obtain ⟨A', c', rfl, hc1, hc2⟩ := h'.shape
  have hs := h'.src hT (fun cs h u hu => (hall cs h u hu).1)
  obtain ⟨f1, f2, f3, f4, f5⟩ := h'.flat
  obtain ⟨ht, hk, i, z, hi, hz, hsz, hby, hzs, hzn⟩ := hT
  by_cases h0 : css' = []
  · subst h0
    obtain ⟨A, c, rfl, q1, q2⟩ := hv.form
    subst hsz
    exact ⟨_, _, run_append_nothing (P := Tryz.prog) w t t ty e i ht hi A _ c q1 _ hs, by simpa using hv, ⟨rfl, rfl, rfl, Nat.le_refl _, fun _ _ _ => rfl⟩⟩
  cases A' with
  | none => exact absurd (f4 rfl) h0
  | some ad =>
  have hpos : 0 < css'.length := List.length_pos_iff.2 h0
  have h1 : ∀ u ∈ css'.flatten, u.oneCell' = true := fun u hu => by
    obtain ⟨cs, a1, a2⟩ := List.mem_flatten.1 hu; exact (hall cs a1 u a2).1
  have h2 : ∀ u ∈ css'.flatten, notInt u = true := fun u hu => by
    obtain ⟨cs, a1, a2⟩ := List.mem_flatten.1 hu; exact (hall cs a1 u a2).2
  have hbt : (css.length + css'.length) * i.bytes ≤ 140737488355328 := by have h := Nat.mul_le_mul hn hby; omega
  obtain ⟨v', w', hrun, hown, hgr, -⟩ := run_append_own (P := Tryz.prog) w B t ty e i z k i.bytes ht hi hz hsz rfl hzs hk v css.length css.flatten hv.2.1 ad css'.length c' css'.flatten f3 (f5 ad rfl) h1 (by unfold maxLen; omega) hbt hB
  refine ⟨v', w', hrun, ⟨fun x hx => ?_, by rw [List.length_append, List.flatten_append]; exact hown, ?_⟩, hgr⟩
  · rcases List.mem_append.1 hx with hx | hx
    · exact hv.1 x hx
    · exact h'.1 x hx
  have hcs' : ∀ u ∈ css.flatten, notInt u = true := by
    intro u hu
    rcases hv.2.1.2 with ⟨_, h0⟩ | ⟨g, cap, cur, e1, _, hg, _, _, _, htk⟩
    · rw [List.eq_nil_of_length_eq_zero h0] at hu; cases hu
    · obtain ⟨cur', e', hb, hcl⟩ := hv.2.2 g (by rw [e1]; rfl)
      unfold Box at hb
      rw [hg] at hb
      simp only [Option.some.injEq, Obj.cells.injEq] at hb
      obtain ⟨rfl, _⟩ := hb
      rw [← htk] at hu
      exact Array.all_eq_true_iff_forall_mem.1 hcl u (by rw [← Array.mem_toList_iff]; exact List.mem_of_mem_take hu)
  have hzz : ∀ n, ∀ u ∈ (Builtin.zeroCells z.cells n), notInt u = true := fun n u hu => by
    have hzn' := Array.all_eq_true_iff_forall_mem.1 hzn
    unfold Builtin.zeroCells at hu
    rw [Array.mem_map] at hu
    obtain ⟨j, hj, rfl⟩ := hu
    have hlt : j % z.cells.size < z.cells.size := Nat.mod_lt _ (by omega)
    rw [getElem!_pos z.cells _ hlt]
    exact hzn' _ (Array.getElem_mem hlt)
  have new : ∀ (olds : List Value) (n : Nat), (∀ u ∈ olds, notInt u = true) → (olds.toArray ++ css'.flatten.toArray ++ Builtin.zeroCells z.cells n).all notInt = true := fun olds n ho => by
    rw [Array.all_eq_true_iff_forall_mem]
    intro u hu
    rw [Array.mem_append, Array.mem_append, List.mem_toArray, List.mem_toArray] at hu
    rcases hu with (hu | hu) | hu
    · exact ho u hu
    · exact h2 u hu
    · exact hzz n u hu
  intro g' hg'
  subst hsz
  have h63 : ((css.length + css'.length : Nat) : Int) ≤ 9223372036854775807 := by omega
  rcases hv.2.1.2 with ⟨rfl, h0⟩ | ⟨g, cap, cur, rfl, hbg, hg, hnc, hcm, hcsz, htk⟩
  · have hb0 : css'.length * i.bytes ≤ 281474976710656 := by have := Nat.mul_le_mul (show css'.length ≤ 200000 by omega) hby; omega
    have hr := run_append_nil (P := Tryz.prog) (w := w) t ty e i z ht hi hz ad css'.length c' css'.flatten f3 (f5 ad rfl) hpos (by omega) hb0
    rw [hrun] at hr
    injection hr with e1 e2
    subst e1 e2
    injection hg' with hg'
    subst hg'
    refine ⟨_, _, heap_alloc_new w.drew _, ?_⟩
    have := new [] (grownCap w css'.length 0 e - css'.length) (fun u hu => by cases hu)
    simpa using this
  · by_cases hroom : css.length + css'.length ≤ cap
    · have hfit : css.length * i.size + css'.flatten.length ≤ cur.size := by rw [f3, hcsz, ← Nat.add_mul]; exact Nat.mul_le_mul_right _ hroom
      have hr := run_append_room (P := Tryz.prog) w t ty e i ht hi g css.length cap cur hg ad css'.length c' css'.flatten f3 (f5 ad rfl) h1 hroom hfit
      rw [hrun] at hr
      injection hr with e1 e2
      subst e1 e2
      injection hg' with hg'
      subst hg'
      obtain ⟨cur', e', hb, hcl⟩ := hv.2.2 g rfl
      unfold Box at hb
      rw [hg] at hb
      simp only [Option.some.injEq, Obj.cells.injEq] at hb
      obtain ⟨rfl, _⟩ := hb
      have hall := Array.all_eq_true_iff_forall_mem.1 hcl
      refine ⟨_, _, setRow_heap w g cur _ e _ hg, ?_⟩
      rw [Array.all_eq_true_iff_forall_mem]
      intro u hu
      rw [List.mem_toArray, List.mem_append, List.mem_append] at hu
      rcases hu with (hu | hu) | hu
      · exact hall u (by rw [← Array.mem_toList_iff]; exact List.mem_of_mem_take hu)
      · exact h2 u hu
      · exact hall u (by rw [← Array.mem_toList_iff]; exact List.mem_of_mem_drop hu)
    · have holds : ∀ j u, css.flatten[j]? = some u → w.cell? ((⟨g, 0, none⟩ : Addr).add j) = some u := hv.2.1.cells (g := g) rfl
      have hr := run_append_grow (P := Tryz.prog) (w := w) t ty e i z ht hi hz ⟨g, 0, none⟩ css.length cap css.flatten hv.2.1.1 holds ad css'.length c' css'.flatten f3 (f5 ad rfl) (by omega) (by omega) (growslice_fits (by omega) hbt)
      rw [hrun] at hr
      injection hr with e1 e2
      subst e1 e2
      injection hg' with hg'
      subst hg'
      exact ⟨_, _, heap_alloc_new w.drew _, new _ _ hcs'⟩
theorem wpList_append_rows {ops : Array Oper} {rest : List Oper} {o : Oper} {a : Act} {Q : Exit → Act → World → Prop} (hgd : o.guard = none) (s x : Operand) (ho : o.op = .call { callee := .builtin .append, args := #[s, x], argTypes := #[t, t] })
    (hT : ElemT t e k) (B : Nat) (hs : a.eval s = v) (hv : OwnE w B e k v css) (hx : a.eval x = u) (h' : ReadR w k u css') (hall : ∀ cs ∈ css', ∀ u ∈ cs, u.oneCell' = true ∧ notInt u = true) (hn : css.length + css'.length ≤ 200000) (hB : B ≤ w.heap.size)
    (hh : ∀ v' w', OwnE w' B e k v' (css ++ css') → w.grownBy w' v.ownBlock → wpList Tryz.prog ops Q rest (a.put o.dst v') w') : wpList Tryz.prog ops Q (o :: rest) a w :=
  wpList_plain hgd fun _ hK => by
    obtain ⟨v', w', hrun, h2, h3⟩ := run_append_rows (ty := o.type) hT hv h' hall hn hB
    unfold Oper.wp execOp
    simp only [ho, resolve, invoke, builtin, Sem.run_bind, Sem.run_pure, Result.andThen_ok, List.map_toArray, List.map_cons, List.map_nil, hs, hx, hrun]
    exact hK _ _ (hh v' w' h2 h3)
theorem All2.mem {α β : Type} {R : α → β → Prop} {l : List α} {m : List β} (h : All2 R l m) : ∀ a ∈ l, ∃ b, R a b := by
  induction l generalizing m with
  | nil => intro a ha; cases ha
  | cons c l ih => cases m with
    | nil => cases h
    | cons d m =>
      intro a ha
      rcases List.mem_cons.1 ha with rfl | ha
      · exact ⟨d, h.1⟩
      · exact ih h.2 a ha
theorem All2.app {α β : Type} {R : α → β → Prop} {l l' : List α} {m m' : List β} (h : All2 R l m) (h' : All2 R l' m') : All2 R (l ++ l') (m ++ m') := by
  induction l generalizing m with
  | nil => cases m <;> first | exact h' | cases h
  | cons c l ih => cases m with
    | nil => cases h
    | cons d m => exact ⟨h.1, ih h.2⟩
theorem All2.take {α β : Type} {R : α → β → Prop} {l : List α} {m : List β} (h : All2 R l m) (j : Nat) : All2 R (l.take j) (m.take j) := by
  induction j generalizing l m with
  | zero => exact trivial
  | succ j ih => cases l with
    | nil => cases m with
      | nil => exact trivial
      | cons b m => cases h
    | cons a l => cases m with
      | nil => cases h
      | cons b m => exact ⟨h.1, ih h.2⟩
/-- Parts of a slice. -/
theorem ReadR.part (h : ReadR w k (.slice A n c) css) {i j : Nat} (hij : i ≤ j) (hj : j ≤ n) {m : Nat} (hm : j ≤ m) (hm2 : m ≤ c) : ReadR w k (.slice (A.map fun a => a.add (i * k)) (j - i) (m - i)) ((css.take j).drop i) := by
  obtain ⟨h1, A', c', h2, h3, h4, h5⟩ := h
  injection h2 with e1 e2 e3
  subst e1 e2 e3
  have hl : ((css.take j).drop i).length = j - i := by rw [List.length_drop, List.length_take]; omega
  refine ⟨fun cs hcs => h1 cs (List.mem_of_mem_take (List.mem_of_mem_drop hcs)), _, _, by rw [hl], by rw [hl]; omega, by omega, fun hne => ?_⟩
  obtain ⟨g, o, e1, h6⟩ := h5 (fun h0 => hne (by rw [h0]; simp))
  subst e1
  refine ⟨g, o + i * k, by simp [Addr.add_lit], fun i' cs hi' j' x hx => ?_⟩
  rw [List.getElem?_drop, List.getElem?_take] at hi'
  split at hi'
  · have := h6 (i + i') cs hi' j' x hx
    rw [show o + i * k + (i' * k + j') = o + ((i + i') * k + j') by rw [Nat.add_mul]; omega]
    exact this
  · cases hi'
end
section
variable {w w' : World} {L : Nat} {v : Value} {qs : List Rat}
/-- The cells of a number of the reference. -/
def QE (w : World) (L : Nat) (cs : List Value) (q : Rat) : Prop := ∃ s0 A0 n0 c0 D0 m0 e0, cs = [.bool s0, .slice A0 n0 c0, .slice D0 m0 e0] ∧ PQ w s0 (.slice A0 n0 c0) (.slice D0 m0 e0) q L
theorem firm_qe (L : Nat) (cs : List Value) (q : Rat) : Firm fun w => QE w L cs q :=
  Firm.ex fun _ => Firm.ex fun _ => Firm.ex fun _ => Firm.ex fun _ => Firm.ex fun _ => Firm.ex fun _ => Firm.ex fun _ => (Firm.const _).and (firm_pq _ _ _ _ _)
/-- A list of numbers of the reference in memory. -/
def QS (w : World) (L : Nat) (v : Value) (qs : List Rat) : Prop := ∃ css, ReadR w 3 v css ∧ All2 (QE w L) css qs
theorem QS.below (h : QS w L v qs) (hb : Below w.heap.size w w') : QS w' L v qs := by
  obtain ⟨css, h1, h2⟩ := h
  exact ⟨css, h1.below hb, h2.mono fun a b r => (firm_qe L a b).below r hb⟩
theorem QS.form (h : QS w L v qs) : ∃ A c, v = .slice A qs.length c ∧ qs.length ≤ c ∧ c ≤ maxLen := by
  obtain ⟨css, h1, h2⟩ := h
  rw [← h2.len]; exact h1.shape
theorem QS.nil (w : World) (L : Nat) : QS w L (.slice none 0 0) [] := ⟨[], (OwnE.nil w 0 37 3).read, trivial⟩
theorem qe_cells {css : List (List Value)} (h : All2 (QE w L) css qs) : ∀ cs ∈ css, ∀ u ∈ cs, u.oneCell' = true ∧ notInt u = true := by
  intro cs hcs u hu
  obtain ⟨q, _, _, _, _, _, _, _, rfl, _⟩ := h.mem cs hcs
  simp at hu
  rcases hu with rfl | rfl | rfl <;> simp [notInt, Value.oneCell']
end
end Go.Proofs.YtpgkkkodniiilaaGreatDoor
namespace Go.Proofs.YtpgkkkodniiilaaGreatDoor
open Go.RowKit
section
variable {f0 h0 f1 h1 f2 h2 f3 h3 f4 h4 f5 h5 f6 h6 f7 h7 f8 h8 f9 h9 f10 h10 f11 h11 : Bool} {A0 D0 : Option Addr} {n0 c0 m0 e0 e1 e2 e3 e4 : Nat} {s0 s6 : Bool} {q0 q1 q2 q3 q4 q5 q6 q7 : Rat} {z0 z1 z2 z3 z4 z5 z6 z7 z8 z9 z10 z11 : Int} {L L0 L1 x y : Nat} {k : Int} {w : World}
variable {o0 o1 o2 o3 : Option Rat} {l l' : List Sp}
/-- The cells css are those of the spans l of the reference. -/
def SrL (w : World) (L : Nat) (css : List (List Value)) (l : List Sp) : Prop := All2 (SrE w L) css l
/-- The cells css are those of the numbers qs of the reference. -/
def QL (w : World) (L : Nat) (css : List (List Value)) (qs : List Rat) : Prop := All2 (QE w L) css qs
theorem firm_srl (L : Nat) (css : List (List Value)) (l : List Sp) : Firm fun w => SrL w L css l := Firm.all2 (fun a b => firm_sre L a b) css l
theorem firm_ql (L : Nat) (css : List (List Value)) (l : List Rat) : Firm fun w => QL w L css l := Firm.all2 (fun a b => firm_qe L a b) css l
section
variable {w' : World} {B : Nat} {e : TypeId} {k : Nat} {v : Value} {css cs0 : List (List Value)} {qs : List Rat} {b : Nat}
theorem SrL.below (h : SrL w L css l) (hb : Below w.heap.size w w') : SrL w' L css l := (firm_srl L css l).below h hb
theorem SrL.own (h : SrL w L css l) (ho : OwnE w B e k v cs0) (hg : w.grownBy w' v.ownBlock) : SrL w' L css l := (firm_srl L css l).own h ho.2.2 hg
theorem QL.below (h : QL w L css qs) (hb : Below w.heap.size w w') : QL w' L css qs := (firm_ql L css qs).below h hb
theorem QL.own (h : QL w L css qs) (ho : OwnE w B e k v cs0) (hg : w.grownBy w' v.ownBlock) : QL w' L css qs := (firm_ql L css qs).own h ho.2.2 hg
theorem PQ.own {s : Bool} {y u : Value} {q : Rat} (h : PQ w s y u q L) (ho : OwnE w B e k v css) (hg : w.grownBy w' v.ownBlock) : PQ w' s y u q L := (firm_pq s y u q L).own h ho.2.2 hg
theorem EndP.own {s : Bool} {y u : Value} {no : Bool} {o : Option Rat} (h : EndP w L s y u no o) (ho : OwnE w B e k v css) (hg : w.grownBy w' v.ownBlock) : EndP w' L s y u no o := (firm_endp L s y u no o).own h ho.2.2 hg
theorem EndP.tape {s : Bool} {y u : Value} {no : Bool} {o : Option Rat} (h : EndP w L s y u no o) (ht : Tape w b) (hg : w.grownBy w' (some b)) : EndP w' L s y u no o := by
  rcases h with ⟨h1, q, h2, h3⟩ | h
  · exact .inl ⟨h1, q, h2, h3.tape ht hg⟩
  · exact .inr h
theorem SrE.tape {cs : List Value} {s : Sp} (h : SrE w L cs s) (ht : Tape w b) (hg : w.grownBy w' (some b)) : SrE w' L cs s := by
  obtain ⟨x0, x1, x2, x3, x4, x5, x6, x7, x8, x9, x10, x11, x12, x13, x14, x15, e, k1, k2⟩ := h
  exact ⟨x0, x1, x2, x3, x4, x5, x6, x7, x8, x9, x10, x11, x12, x13, x14, x15, e, k1.tape ht hg, k2.tape ht hg⟩
theorem SrL.tape (h : SrL w L css l) (ht : Tape w b) (hg : w.grownBy w' (some b)) : SrL w' L css l := All2.mono h fun _ _ r => r.tape ht hg
end
/-- A literal's block, read and owned. -/
theorem Box.readl {g : Nat} {cs : List Value} {t : TypeId} {k : Nat} (h : Box w g cs.toArray t) (hk : cs.length = k) : ReadR w k (.slice (some ⟨g, 0, none⟩) 1 1) [cs] := by
  refine ⟨fun x hx => by have := List.mem_singleton.1 hx; subst this; exact hk, _, 1, rfl, Nat.le_refl _, by decide, fun _ => ⟨g, 0, rfl, fun i cs' hi j x hx => ?_⟩⟩
  cases i with
  | succ i => cases hi
  | zero =>
    injection hi with hi; subst hi
    have hlt := (List.getElem?_eq_some_iff.1 hx).1
    have := h.cell (0 * k + j) x (by rw [Nat.zero_mul, Nat.zero_add]; simpa using hx)
    rw [Nat.zero_add]; exact this
theorem Box.ownl {g : Nat} {cs : List Value} {e : TypeId} {k B : Nat} (h : Box w g cs.toArray e) (hk : cs.length = k) (hB : B ≤ g) (hc : cs.all notInt = true) : OwnE w B e k (.slice (some ⟨g, 0, none⟩) 1 1) [cs] :=
  ⟨fun x hx => by have := List.mem_singleton.1 hx; subst this; exact hk, ⟨by simp [hk], .inr ⟨g, 1, cs.toArray, rfl, hB, h, Nat.le_refl _, by decide, by simp [hk], by simp [← hk]⟩⟩, fun g' hg' => by injection hg' with hg'; subst hg'; exact ⟨_, _, h, by simpa using hc⟩⟩
theorem op_append_rows {e t : TypeId} {k : Nat} {v u : Value} {css css' : List (List Value)} {o : Oper} {a : Act} {K : Act → World → Prop} {Q : Exit → Act → World → Prop} (s x : Operand) (ho : o.op = .call { callee := .builtin .append, args := #[s, x], argTypes := #[t, t] })
    (hT : ElemT t e k) (B : Nat) (hs : a.eval s = v) (hv : OwnE w B e k v css) (hx : a.eval x = u) (h' : ReadR w k u css') (hall : ∀ cs ∈ css', ∀ u ∈ cs, u.oneCell' = true ∧ notInt u = true) (hn : css.length + css'.length ≤ 200000) (hB : B ≤ w.heap.size)
    (hh : ∀ v' w', OwnE w' B e k v' (css ++ css') → w.grownBy w' v.ownBlock → K (a.put o.dst v') w') : Oper.wp Tryz.prog o a w K Q := by
  obtain ⟨v', w', hrun, h2, h3⟩ := run_append_rows (ty := o.type) hT hv h' hall hn hB
  unfold Oper.wp execOp
  simp only [ho, resolve, invoke, builtin, Sem.run_bind, Sem.run_pure, Result.andThen_ok, List.map_toArray, List.map_cons, List.map_nil, hs, hx, hrun]
  exact hh v' w' h2 h3
theorem op_append_read {e t : TypeId} {k n c : Nat} {A : Option Addr} {u : Value} {css css' : List (List Value)} {o : Oper} {a : Act} {K : Act → World → Prop} {Q : Exit → Act → World → Prop} (s x : Operand) (ho : o.op = .call { callee := .builtin .append, args := #[s, x], argTypes := #[t, t] })
    (hT : ElemT t e k) (hs : a.eval s = .slice A n c) (h : ReadR w k (.slice A n c) css) (hx : a.eval x = u) (h' : ReadR w k u css') (hone : ∀ cs ∈ css', ∀ u ∈ cs, u.oneCell' = true) (hg : css' = [] ∨ c < n + css'.length) (hn : n + css'.length ≤ 200000)
    (hh : ∀ v' w', ReadR w' k v' (css ++ css') → Below w.heap.size w w' → K (a.put o.dst v') w') : Oper.wp Tryz.prog o a w K Q := by
  obtain ⟨v', w', hrun, h2, h3⟩ := run_append_read (ty := o.type) hT h h' hone hg hn
  unfold Oper.wp execOp
  simp only [ho, resolve, invoke, builtin, Sem.run_bind, Sem.run_pure, Result.andThen_ok, List.map_toArray, List.map_cons, List.map_nil, hs, hx, hrun]
  exact hh v' w' h2 h3
theorem lit_all {cs : List Value} (h : cs.all (fun u => u.oneCell' && notInt u) = true) : ∀ x ∈ [cs], ∀ u ∈ x, u.oneCell' = true ∧ notInt u = true := fun x hx u hu => by
  have := List.mem_singleton.1 hx; subst this
  have := List.all_eq_true.1 h u hu
  simpa using this
theorem elem_s6 : ElemT 43 39 8 := elemT Tryz.underlying43 (by decide) (by kernel_rfl)
theorem elem_q : ElemT 107 37 3 := elemT Tryz.underlying107 (by decide) (by kernel_rfl)
theorem elem_bool : ElemT 109 4 1 := elemT Tryz.underlying109 (by decide) (by kernel_rfl)
theorem sre_cells {css : List (List Value)} (h : SrL w L css l) : ∀ cs ∈ css, ∀ u ∈ cs, u.oneCell' = true ∧ notInt u = true := by
  intro cs hcs u hu
  obtain ⟨q, _, _, _, _, _, _, _, _, _, _, _, _, _, _, _, _, rfl, _⟩ := All2.mem h cs hcs
  simp at hu
  rcases hu with rfl | rfl | rfl | rfl | rfl | rfl | rfl | rfl <;> simp [notInt, Value.oneCell']
theorem QS.elem {A : Option Addr} {n c i : Nat} {l : List (Rat)} {s : Rat} (h : QS w L (.slice A n c) l) (hi : l[i]? = some s) : ∃ g o, ∃ (s0 : Bool), ∃ (A0 : Option Addr), ∃ (n0 : Nat), ∃ (c0 : Nat), ∃ (D0 : Option Addr), ∃ (m0 : Nat), ∃ (e0 : Nat), A = some ⟨g, o, none⟩ ∧ w.cell? ⟨g, o + i * 3, none⟩ = some (.bool s0) ∧ w.cell? ⟨g, o + i * 3 + 1, none⟩ = some (.slice A0 n0 c0) ∧ w.cell? ⟨g, o + i * 3 + 2, none⟩ = some (.slice D0 m0 e0) ∧ PQ w s0 (.slice A0 n0 c0) (.slice D0 m0 e0) s L := by
  obtain ⟨css, ⟨hk, A', c', e1, _, _, hr⟩, ha⟩ := h
  injection e1 with e1 e2 e3
  subst e1 e2 e3
  obtain ⟨cs, hcs, hE⟩ := ha.get hi
  obtain ⟨s0, A0, n0, c0, D0, m0, e0, rfl, hE0⟩ := hE
  obtain ⟨g, o, e4, hcell⟩ := hr (by rintro rfl; cases hcs)
  have hc := fun j x hx => hcell i _ hcs j x hx
  refine ⟨g, o, s0, A0, n0, c0, D0, m0, e0, e4, ?_, ?_, ?_, hE0⟩
  · exact hc 0 _ rfl
  · rw [Nat.add_assoc]; exact hc 1 _ rfl
  · rw [Nat.add_assoc]; exact hc 2 _ rfl
theorem QS.head {A : Option Addr} {n c : Nat} {l : List Rat} {s : Rat} (h : QS w L (.slice A n c) (s :: l)) : ∃ g o, ∃ (s0 : Bool), ∃ (A0 : Option Addr), ∃ (n0 : Nat), ∃ (c0 : Nat), ∃ (D0 : Option Addr), ∃ (m0 : Nat), ∃ (e0 : Nat), A = some ⟨g, o, none⟩ ∧ CellF w ⟨g, o, none⟩ (.bool s0) ∧ CellF w ⟨g, o + 1, none⟩ (.slice A0 n0 c0) ∧ CellF w ⟨g, o + 2, none⟩ (.slice D0 m0 e0) ∧ PQ w s0 (.slice A0 n0 c0) (.slice D0 m0 e0) s L := by
  obtain ⟨g, o, s0, A0, n0, c0, D0, m0, e0, h1, h2, h3, h4, h6⟩ := h.elem (i := 0) rfl
  simp only [Nat.zero_mul, Nat.add_zero] at h2 h3 h4
  exact ⟨g, o, s0, A0, n0, c0, D0, m0, e0, h1, h2, h3, h4, h6⟩
theorem mids_get {cs : List Rat} : ∀ {c : Rat} {i : Nat} {a b : Rat}, (c :: cs)[i]? = some a → cs[i]? = some b → (midsT c cs)[i]? = some ((a + b) / 2) := by
  induction cs with
  | nil => intro c i a b _ h; cases h
  | cons d ds ih =>
    intro c i a b h1 h2
    cases i with
    | zero => injection h1 with h1; injection h2 with h2; subst h1 h2; rfl
    | succ i => exact ih (c := d) h1 h2
theorem mids_last {cs : List Rat} : ∀ {c a : Rat}, (c :: cs)[cs.length]? = some a → (midsT c cs)[cs.length]? = some (a + 1) := by
  induction cs with
  | nil => intro c a h; injection h with h; subst h; rfl
  | cons d ds ih => intro c a h; exact ih (c := d) h
theorem probes_get {c : Rat} {cs : List Rat} {j : Nat} {a b : Rat} (h1 : (c :: cs)[j]? = some a) (h2 : (c :: cs)[j + 1]? = some b) : (probesT (c :: cs)).take (j + 1 + 1) = (probesT (c :: cs)).take (j + 1) ++ [(a + b) / 2] := by
  have h3 : (probesT (c :: cs))[j + 1]? = some ((a + b) / 2) := mids_get (c := c) (cs := cs) (i := j) h1 h2
  rw [List.take_add_one (i := j + 1), h3]; rfl
theorem probes_last {c : Rat} {cs : List Rat} {a : Rat} (h : (c :: cs)[cs.length]? = some a) : probesT (c :: cs) = (probesT (c :: cs)).take (cs.length + 1) ++ [a + 1] := by
  have h3 : (probesT (c :: cs))[cs.length + 1]? = some (a + 1) := mids_last (c := c) (cs := cs) h
  have h4 := List.take_add_one (l := probesT (c :: cs)) (i := cs.length + 1)
  rw [h3, List.take_of_length_le (by rw [probes_len]; simp)] at h4
  exact h4
end
end Go.Proofs.YtpgkkkodniiilaaGreatDoor
