/-
  SpA, SpB, SpC, SpD in one text.
-/
import Derived.Test.YtpgkkkodniiilaaGreatDoorWSq
import Derived.Test.YtpgkkkodniiilaaGreatDoorWRatS
import Derived.Test.YtpgkkkodniiilaaGreatDoorWSpM
import Derived.IntWalk
import Derived.Deep.Cut
namespace Go.Proofs.YtpgkkkodniiilaaGreatDoor
open List (getElem_toArray getElem_cons_succ getElem_cons_zero setIfInBounds_toArray set_cons_zero set_cons_succ)
open Go.RowKit
section
variable {α β : Type} {R S : α → β → Prop} {a : α} {b : β} {l : List α} {m : List β}
/-- Two lists go together, element by element. -/
def All2 (R : α → β → Prop) : List α → List β → Prop
  | [], [] => True
  | a :: l, b :: m => R a b ∧ All2 R l m
  | _, _ => False
theorem All2.len (h : All2 R l m) : l.length = m.length := by
  induction l generalizing m with
  | nil => cases m <;> first | rfl | cases h
  | cons a l ih => cases m with
    | nil => cases h
    | cons b m => simp [ih h.2]
theorem All2.mono (h : All2 R l m) (f : ∀ a b, R a b → S a b) : All2 S l m := by
  induction l generalizing m with
  | nil => cases m <;> first | trivial | cases h
  | cons a l ih => cases m with
    | nil => cases h
    | cons b m => exact ⟨f _ _ h.1, ih h.2⟩
theorem All2.get (h : All2 R l m) {i : Nat} (hb : m[i]? = some b) : ∃ a, l[i]? = some a ∧ R a b := by
  induction l generalizing m i with
  | nil => cases m <;> first | cases hb | cases h
  | cons a l ih => cases m with
    | nil => cases h
    | cons c m =>
      cases i with
      | zero => injection hb with hb; subst hb; exact ⟨a, rfl, h.1⟩
      | succ i => exact ih h.2 hb
theorem All2.snoc (h : All2 R l m) (r : R a b) : All2 R (l ++ [a]) (m ++ [b]) := by
  induction l generalizing m with
  | nil => cases m <;> first | exact ⟨r, trivial⟩ | cases h
  | cons c l ih => cases m with
    | nil => cases h
    | cons d m => exact ⟨h.1, ih h.2⟩
theorem All2.drop (h : All2 R l m) (k : Nat) : All2 R (l.drop k) (m.drop k) := by
  induction k generalizing l m with
  | zero => exact h
  | succ k ih => cases l with
    | nil => cases m with
      | nil => exact trivial
      | cons b m => cases h
    | cons a l => cases m with
      | nil => cases h
      | cons b m => exact ih h.2
end
section
variable {w w' : World} {B B' : Nat} {e t : TypeId} {k : Nat} {v : Value} {css : List (List Value)}
/-- All cells of the block in which v begins are no digits. -/
def CleanB (w : World) (v : Value) : Prop := ∀ g, v.ownBlock = some g → ∃ cur e, Box w g cur e ∧ cur.all notInt = true
/-- v is a slice of the call's own, in a block from B on; its rows, of k cells each, are css. -/
def OwnE (w : World) (B : Nat) (e : TypeId) (k : Nat) (v : Value) (css : List (List Value)) : Prop :=
  (∀ cs ∈ css, cs.length = k) ∧ w.ownsRow B e k v css.length css.flatten ∧ CleanB w v
/-- What the program says of a slice type t with elements of type e. -/
def ElemT (t e : TypeId) (k : Nat) : Prop := Tryz.prog.underlying t = some (.slice e) ∧ 0 < k ∧ ∃ i z, Tryz.prog.info? e = some i ∧ i.zero = some z ∧ i.size = k ∧ i.bytes ≤ 200 ∧ z.cells.size = k ∧ z.cells.all notInt = true
theorem elemT (ht : Tryz.prog.underlying t = some (.slice e)) (hk : 0 < k) (h : ((Tryz.prog.info? e).any fun i => i.size == k && decide (i.bytes ≤ 200) && match i.zero with | some z => z.cells.size == k && z.cells.all notInt | none => false) = true) : ElemT t e k := by
  cases hi : Tryz.prog.info? e with
  | none => rw [hi] at h; cases h
  | some i =>
    rw [hi] at h
    simp only [Option.any_some, Bool.and_eq_true, beq_iff_eq, decide_eq_true_eq] at h
    cases hz : i.zero with
    | none => rw [hz] at h; cases h.2
    | some z =>
      rw [hz] at h
      simp only [Bool.and_eq_true, beq_iff_eq] at h
      exact ⟨ht, hk, i, z, hi, hz, h.1.1, h.1.2, h.2.1, h.2.2⟩
theorem CleanB.kept {r : Option Nat} (h : CleanB w v) (hg : w.grownBy w' r) (hne : v.ownBlock = none ∨ v.ownBlock ≠ r) : CleanB w' v := fun g hgg => by
  obtain ⟨cur, e, h1, h2⟩ := h g hgg
  refine ⟨cur, e, ?_, h2⟩
  refine (hg.block g h1.lt ?_).trans h1
  rcases hne with hne | hne
  · rw [hne] at hgg; cases hgg
  · rw [← hgg]; exact hne
theorem OwnE.nil (w : World) (B : Nat) (e : TypeId) (k : Nat) : OwnE w B e k (.slice none 0 0) [] :=
  ⟨fun cs h => (by cases h), by simpa using World.ownsRow_nil w B e k, fun g hg => (by cases hg)⟩
theorem OwnE.lt (h : OwnE w B e k v css) : ∀ g, v.ownBlock = some g → B ≤ g ∧ g < w.heap.size := h.2.1.lt
theorem OwnE.kept {r : Option Nat} (h : OwnE w B e k v css) (hg : w.grownBy w' r) (hne : v.ownBlock = none ∨ v.ownBlock ≠ r) : OwnE w' B e k v css :=
  ⟨h.1, h.2.1.kept hg hne, h.2.2.kept hg hne⟩
theorem grown_below {X : World} {r : Option Nat} (h : Below w.heap.size w X) : w.grownBy X r := ⟨h.os, h.tape, h.output, h.size, fun k hk _ => h.block k hk⟩
theorem OwnE.below (h : OwnE w B e k v css) (hb : Below w.heap.size w w') : OwnE w' B e k v css := by
  cases hv : v.ownBlock with
  | none => exact h.kept (grown_below (r := none) hb) (.inl hv)
  | some g => exact h.kept (grown_below (r := none) hb) (.inr (by rw [hv]; intro he; cases he))
theorem OwnE.form (h : OwnE w B e k v css) : ∃ A c, v = .slice A css.length c ∧ css.length ≤ c ∧ c ≤ maxLen := by
  rcases h.2.1.2 with ⟨h1, h2⟩ | ⟨g, cap, cur, h1, _, _, h2, h3, _⟩
  · exact ⟨none, 0, by rw [h1, h2], by omega, by decide⟩
  · exact ⟨_, cap, h1, h2, h3⟩
/-- append of one element: the law of the library's, and what the new block holds besides. -/
theorem run_append_row {ty : TypeId} (hT : ElemT t e k) (hv : OwnE w B e k v css) {ad : Addr} {c : Nat} {cs : List Value} (hl : cs.length = k) (hc : ∀ j u, cs[j]? = some u → w.cell? (ad.add j) = some u)
    (h1 : ∀ u ∈ cs, u.oneCell' = true) (h2 : ∀ u ∈ cs, notInt u = true) (hn : css.length ≤ 100000) (hB : B ≤ w.heap.size) :
    ∃ v' w', (Builtin.append_ #[t, t] ty #[v, .slice (some ad) 1 c]).run Tryz.prog w = .ok v' w' ∧ OwnE w' B e k v' (css ++ [cs]) ∧ w.grownBy w' v.ownBlock := by
  obtain ⟨ht, hk, i, z, hi, hz, hs, hby, hzs, hzn⟩ := hT
  have hcl1 : cs.length = 1 * k := by omega
  have hbt : (css.length + 1) * i.bytes ≤ 140737488355328 := by have h := Nat.mul_le_mul (show css.length + 1 ≤ 100001 by omega) hby; omega
  obtain ⟨v', w', hrun, hown, hgr, -⟩ := run_append_own (P := Tryz.prog) w B t ty e i z k i.bytes ht hi hz hs rfl hzs hk v css.length css.flatten hv.2.1 ad 1 c cs hcl1 hc h1 (by unfold maxLen; omega) hbt hB
  refine ⟨v', w', hrun, ⟨fun x hx => ?_, by rw [List.length_append, List.flatten_append]; simpa using hown, ?_⟩, hgr⟩
  · rcases List.mem_append.1 hx with hx | hx
    · exact hv.1 x hx
    · have := List.mem_singleton.1 hx; subst this; exact hl
  -- the new block
  have hcs' : ∀ u ∈ css.flatten, notInt u = true := by
    intro u hu
    rcases hv.2.1.2 with ⟨_, h0⟩ | ⟨g, cap, cur, e1, _, hg, _, _, _, htk⟩
    · rw [List.eq_nil_of_length_eq_zero h0] at hu; cases hu
    · obtain ⟨cur', e', hb, hcl⟩ := hv.2.2 g (by rw [e1]; rfl)
      unfold Box at hb
      rw [hg] at hb
      simp only [Option.some.injEq, Obj.cells.injEq] at hb
      obtain ⟨rfl, _⟩ := hb
      rw [← htk] at hu
      exact Array.all_eq_true_iff_forall_mem.1 hcl u (by rw [← Array.mem_toList_iff]; exact List.mem_of_mem_take hu)
  have hzz : ∀ n, ∀ u ∈ (Builtin.zeroCells z.cells n), notInt u = true := fun n u hu => by
    have hzn' := Array.all_eq_true_iff_forall_mem.1 hzn
    unfold Builtin.zeroCells at hu
    rw [Array.mem_map] at hu
    obtain ⟨j, hj, rfl⟩ := hu
    have hlt : j % z.cells.size < z.cells.size := Nat.mod_lt _ (by omega)
    rw [getElem!_pos z.cells _ hlt]
    exact hzn' _ (Array.getElem_mem hlt)
  have new : ∀ (olds : List Value) (n : Nat), (∀ u ∈ olds, notInt u = true) → (olds.toArray ++ cs.toArray ++ Builtin.zeroCells z.cells n).all notInt = true := fun olds n ho => by
    rw [Array.all_eq_true_iff_forall_mem]
    intro u hu
    rw [Array.mem_append, Array.mem_append, List.mem_toArray, List.mem_toArray] at hu
    rcases hu with (hu | hu) | hu
    · exact ho u hu
    · exact h2 u hu
    · exact hzz n u hu
  intro g' hg'
  subst hs
  have h63 : ((css.length + 1 : Nat) : Int) ≤ 9223372036854775807 := by omega
  rcases hv.2.1.2 with ⟨rfl, h0⟩ | ⟨g, cap, cur, rfl, hbg, hg, hnc, hcm, hcsz, htk⟩
  · have hr := run_append_nil (P := Tryz.prog) (w := w) t ty e i z ht hi hz ad 1 c cs hcl1 hc (by omega) (by omega) (by have := hby; omega)
    rw [hrun] at hr
    injection hr with e1 e2
    subst e1 e2
    injection hg' with hg'
    subst hg'
    refine ⟨_, _, heap_alloc_new w.drew _, ?_⟩
    have := new [] (grownCap w 1 0 e - 1) (fun u hu => by cases hu)
    simpa using this
  · by_cases hroom : css.length + 1 ≤ cap
    · have hfit : css.length * i.size + cs.length ≤ cur.size := by rw [hl, hcsz, ← Nat.succ_mul]; exact Nat.mul_le_mul_right _ hroom
      have hr := run_append_room (P := Tryz.prog) w t ty e i ht hi g css.length cap cur hg ad 1 c cs hcl1 hc h1 hroom hfit
      rw [hrun] at hr
      injection hr with e1 e2
      subst e1 e2
      injection hg' with hg'
      subst hg'
      obtain ⟨cur', e', hb, hcl⟩ := hv.2.2 g rfl
      unfold Box at hb
      rw [hg] at hb
      simp only [Option.some.injEq, Obj.cells.injEq] at hb
      obtain ⟨rfl, _⟩ := hb
      have hall := Array.all_eq_true_iff_forall_mem.1 hcl
      refine ⟨_, _, setRow_heap w g cur _ e _ hg, ?_⟩
      rw [Array.all_eq_true_iff_forall_mem]
      intro u hu
      rw [List.mem_toArray, List.mem_append, List.mem_append] at hu
      rcases hu with (hu | hu) | hu
      · exact hall u (by rw [← Array.mem_toList_iff]; exact List.mem_of_mem_take hu)
      · exact h2 u hu
      · exact hall u (by rw [← Array.mem_toList_iff]; exact List.mem_of_mem_drop hu)
    · have holds : ∀ j u, css.flatten[j]? = some u → w.cell? ((⟨g, 0, none⟩ : Addr).add j) = some u := hv.2.1.cells (g := g) rfl
      have hr := run_append_grow (P := Tryz.prog) (w := w) t ty e i z ht hi hz ⟨g, 0, none⟩ css.length cap css.flatten hv.2.1.1 holds ad 1 c cs hcl1 hc (by omega) (by omega) (growslice_fits (by omega) hbt)
      rw [hrun] at hr
      injection hr with e1 e2
      subst e1 e2
      injection hg' with hg'
      subst hg'
      exact ⟨_, _, heap_alloc_new w.drew _, new _ _ hcs'⟩
/-- A new block with one element. -/
theorem lit_cells (w : World) (cs : List Value) (e : TypeId) : ∀ j u, cs[j]? = some u → (w.alloc (.cells cs.toArray e)).cell? ((⟨w.heap.size, 0, none⟩ : Addr).add j) = some u := fun j u hu => by
  rw [Addr.add_lit, Nat.zero_add, cell_of_row _ w.heap.size j cs.toArray e (0, 0) (heap_alloc_new w _)]
  simpa using hu
theorem wpList_append_row {ops : Array Oper} {rest : List Oper} {o : Oper} {a : Act} {Q : Exit → Act → World → Prop} (hgd : o.guard = none) (s x : Operand) (ho : o.op = .call { callee := .builtin .append, args := #[s, x], argTypes := #[t, t] })
    (hT : ElemT t e k) (B : Nat) (cs : List Value) (hs : a.eval s = v) (hv : OwnE w B e k v css) (hx : a.eval x = .slice (some ⟨w.heap.size, 0, none⟩) 1 1) (hl : cs.length = k) (h1 : cs.all (fun u => u.oneCell' && notInt u) = true) (hn : css.length ≤ 100000) (hB : B ≤ w.heap.size)
    (h : ∀ v' w', OwnE w' B e k v' (css ++ [cs]) → w.grownBy w' v.ownBlock → wpList Tryz.prog ops Q rest (a.put o.dst v') w') : wpList Tryz.prog ops Q (o :: rest) a (w.alloc (.cells cs.toArray e)) :=
  wpList_plain hgd fun _ hK => by
    have hall : ∀ u ∈ cs, u.oneCell' = true ∧ notInt u = true := fun u hu => by
      have := List.all_eq_true.1 h1 u hu
      simpa using this
    have hal : Below w.heap.size w (w.alloc (.cells cs.toArray e)) := (Below.refl _ _).alloc (Nat.le_refl _) _
    obtain ⟨v', w', hrun, h2, h3⟩ := run_append_row (ty := o.type) (c := 1) hT (hv.below hal) (ad := ⟨w.heap.size, 0, none⟩) (cs := cs) hl (lit_cells w cs e) (fun u hu => (hall u hu).1) (fun u hu => (hall u hu).2) hn (by have := hal.size; omega)
    unfold Oper.wp execOp
    simp only [ho, resolve, invoke, builtin, Sem.run_bind, Sem.run_pure, Result.andThen_ok, List.map_toArray, List.map_cons, List.map_nil, hs, hx, hrun]
    refine hK _ _ (h v' w' h2 ?_)
    exact ⟨h3.os.trans hal.os, h3.tape.trans hal.tape, h3.output.trans hal.output, Nat.le_trans hal.size h3.size, fun j hj hne => (h3.block j (by have := hal.size; omega) hne).trans (hal.block j hj)⟩
/-- Nothing below B turns where what may be written lies from B on. -/
theorem OwnE.trod (h : OwnE w B e k v css) (hg : w.grownBy w' v.ownBlock) (hB : B ≤ w.heap.size) : Below B w w' :=
  (Below.refl B w).grown hg hB fun g hgg => (h.lt g hgg).1
/-- Facts that no new block and no write to a block without digits turns. -/
structure Firm (P : World → Prop) : Prop where
  below : ∀ {w w' : World}, P w → Below w.heap.size w w' → P w'
  kept : ∀ {w w' : World} {g : Nat} {cs : Array Value} {t : TypeId}, P w → Box w g cs t → cs.all notInt = true → w.grownBy w' (some g) → P w'
theorem Firm.own {P : World → Prop} (F : Firm P) (h : P w) (hc : CleanB w v) (hg : w.grownBy w' v.ownBlock) : P w' := by
  cases hv : v.ownBlock with
  | none =>
    rw [hv] at hg
    exact F.below h ⟨hg.os, hg.tape, hg.output, hg.size, fun j hj => hg.block j hj (by intro he; cases he)⟩
  | some g =>
    obtain ⟨cur, e, h1, h2⟩ := hc g hv
    rw [hv] at hg
    exact F.kept h h1 h2 hg
theorem Firm.all2 {α : Type} {R : World → List Value → α → Prop} (F : ∀ a b, Firm fun w => R w a b) (l : List (List Value)) (m : List α) : Firm fun w => All2 (R w) l m :=
  ⟨fun h hb => h.mono fun a b r => (F a b).below r hb, fun h hx hc hg => h.mono fun a b r => (F a b).kept r hx hc hg⟩
theorem Firm.and {P Q : World → Prop} (F : Firm P) (G : Firm Q) : Firm fun w => P w ∧ Q w :=
  ⟨fun h hb => ⟨F.below h.1 hb, G.below h.2 hb⟩, fun h hx hc hg => ⟨F.kept h.1 hx hc hg, G.kept h.2 hx hc hg⟩⟩
theorem Firm.const (p : Prop) : Firm fun _ => p := ⟨fun h _ => h, fun h _ _ _ => h⟩
theorem Firm.ex {α : Type} {P : α → World → Prop} (F : ∀ a, Firm (P a)) : Firm fun w => ∃ a, P a w :=
  ⟨fun ⟨a, h⟩ hb => ⟨a, (F a).below h hb⟩, fun ⟨a, h⟩ hx hc hg => ⟨a, (F a).kept h hx hc hg⟩⟩
theorem firm_raw (v : Value) (ds : List Nat) : Firm fun w => Raw w v ds := ⟨fun h hb => h.below hb, fun h hx hc hg => Raw.keepBut h hg (Raw.apart h hx hc)⟩
theorem firm_nq (s : Bool) (v u : Value) (q : Rat) (L : Nat) : Firm fun w => NQ w s v u q L := ⟨fun h hb => h.below hb, fun h hx hc hg => h.kept hx hc hg⟩
theorem firm_pq (s : Bool) (v u : Value) (q : Rat) (L : Nat) : Firm fun w => PQ w s v u q L := ⟨fun h hb => h.below hb, fun h hx hc hg => h.kept hx hc hg⟩
/-- A slice that is read: its rows, of k cells each. -/
def ReadR (w : World) (k : Nat) (v : Value) (css : List (List Value)) : Prop :=
  (∀ cs ∈ css, cs.length = k) ∧ ∃ A c, v = .slice A css.length c ∧ css.length ≤ c ∧ c ≤ maxLen ∧ (css ≠ [] → ∃ g o, A = some ⟨g, o, none⟩ ∧ ∀ i cs, css[i]? = some cs → ∀ j x, cs[j]? = some x → w.cell? ⟨g, o + (i * k + j), none⟩ = some x)
theorem ReadR.below (h : ReadR w k v css) (hb : Below w.heap.size w w') : ReadR w' k v css := by
  obtain ⟨h1, A, c, h2, h3, h4, h5⟩ := h
  refine ⟨h1, A, c, h2, h3, h4, fun hne => ?_⟩
  obtain ⟨g, o, e1, h6⟩ := h5 hne
  refine ⟨g, o, e1, fun i cs hi j x hx => ?_⟩
  have h7 := h6 i cs hi j x hx
  exact (hb.cell (p := ⟨g, o + (i * k + j), none⟩) (World.block_lt_of_cell? w _ h7)).trans h7
theorem flat_get {css : List (List Value)} (hk : ∀ cs ∈ css, cs.length = k) {i j : Nat} {cs : List Value} {x : Value} (hi : css[i]? = some cs) (hj : cs[j]? = some x) : css.flatten[i * k + j]? = some x := by
  induction css generalizing i with
  | nil => cases hi
  | cons c css ih =>
    have hc := hk c (List.mem_cons_self ..)
    rw [List.flatten_cons]
    cases i with
    | zero =>
      injection hi with hi; subst hi
      have hlt : j < c.length := (List.getElem?_eq_some_iff.1 hj).1
      rw [Nat.zero_mul, Nat.zero_add, List.getElem?_append_left hlt]; exact hj
    | succ i =>
      rw [Nat.succ_mul, List.getElem?_append_right (by omega), show i * k + k + j - c.length = i * k + j by omega]
      exact ih (fun x hx => hk x (List.mem_cons_of_mem _ hx)) hi
theorem OwnE.read (h : OwnE w B e k v css) : ReadR w k v css := by
  rcases h.2.1.2 with ⟨h1, h2⟩ | ⟨g, cap, cur, h1, _, _, h2, h3, _⟩
  · exact ⟨h.1, none, 0, by rw [h1, h2], by omega, by decide, fun hne => absurd (List.eq_nil_of_length_eq_zero h2) hne⟩
  · refine ⟨h.1, _, cap, h1, h2, h3, fun _ => ⟨g, 0, rfl, fun i cs hi j x hx => ?_⟩⟩
    have := h.2.1.cells (g := g) (by rw [h1]; rfl) (i * k + j) x (flat_get h.1 hi hx)
    rwa [Addr.add_lit] at this
end
end Go.Proofs.YtpgkkkodniiilaaGreatDoor
namespace Go.Proofs.YtpgkkkodniiilaaGreatDoor
open List (getElem_toArray getElem_cons_succ getElem_cons_zero setIfInBounds_toArray set_cons_zero set_cons_succ)
open Go.RowKit
section
variable {f0 h0 f1 h1 f2 h2 f3 h3 f4 h4 f5 h5 f6 h6 f7 h7 f8 h8 f9 h9 f10 h10 f11 h11 : Bool} {A0 A1 A2 A3 A9 D0 D1 D2 D3 : Option Addr} {n0 n1 n2 n3 c0 c1 c2 c3 c4 c5 c6 c7 c9 m0 m1 m2 m3 e0 e1 e2 e3 e4 : Nat} {s0 s1 s2 s3 : Bool} {q0 q1 q2 q3 q4 q5 q6 q7 : Rat} {z0 z1 z2 z3 z4 z5 z6 z7 z8 z9 z10 z11 : Int} {L L0 L1 x y : Nat} {k : Int} {b : Bool} {w : World}
variable {o0 o1 o2 o3 : Option Rat} {l l' : List Sp}
theorem rsg_lt {a b : Rat} (h : a < b) : rsg (a - b) = -1 := by
  exact rsg_neg' (by grind)
theorem rsg_gt {a b : Rat} (h : b < a) : rsg (a - b) = 1 := by
  exact rsg_pos (by grind)
theorem rsg_eq {a b : Rat} (h : a = b) : rsg (a - b) = 0 := by rw [h, Rat.sub_self]; rfl
theorem rsg_tri (a b : Rat) : (rsg (a - b) = -1 ∧ a < b) ∨ (rsg (a - b) = 0 ∧ a = b) ∨ (rsg (a - b) = 1 ∧ b < a) := by
  rcases (show a < b ∨ a = b ∨ b < a by grind) with h | h | h
  · exact .inl ⟨rsg_lt h, h⟩
  · exact .inr (.inl ⟨rsg_eq h, h⟩)
  · exact .inr (.inr ⟨rsg_gt h, h⟩)
/-- An end of a span of the program: a number in normal form, or the zero value where there is none. -/
def EndV (w : World) (L : Nat) (s : Bool) (v u : Value) (no : Bool) (o : Option Rat) : Prop :=
  (no = false ∧ ∃ q, o = some q ∧ NQ w s v u q L) ∨ (no = true ∧ o = none ∧ s = false ∧ Raw w v [] ∧ Raw w u [])
theorem firm_or {P Q : World → Prop} (F : Firm P) (G : Firm Q) : Firm fun w => P w ∨ Q w :=
  ⟨fun h hb => h.imp (F.below · hb) (G.below · hb), fun h hx hc hg => h.imp (F.kept · hx hc hg) (G.kept · hx hc hg)⟩
theorem firm_end (L : Nat) (s : Bool) (v u : Value) (no : Bool) (o : Option Rat) : Firm fun w => EndV w L s v u no o :=
  firm_or ((Firm.const _).and (Firm.ex fun q => (Firm.const _).and (firm_nq s v u q L))) ((Firm.const _).and ((Firm.const _).and ((Firm.const _).and ((firm_raw v []).and (firm_raw u [])))))
theorem EndV.below {w' : World} {s : Bool} {v u : Value} {no : Bool} {o : Option Rat} (h : EndV w L s v u no o) (hb : Below w.heap.size w w') : EndV w' L s v u no o := (firm_end L s v u no o).below h hb
/-- The cells of a span of the program. -/
def SpE (w : World) (L : Nat) (cs : List Value) (s : Sp) : Prop := ∃ (s0 : Bool), ∃ (A0 : Option Addr), ∃ (n0 : Nat), ∃ (c0 : Nat), ∃ (D0 : Option Addr), ∃ (m0 : Nat), ∃ (e0 : Nat), ∃ (s1 : Bool), ∃ (A1 : Option Addr), ∃ (n1 : Nat), ∃ (c1 : Nat), ∃ (D1 : Option Addr), ∃ (m1 : Nat), ∃ (e1 : Nat), ∃ (f0 : Bool), ∃ (h0 : Bool), cs = [.bool s0, .slice A0 n0 c0, .slice D0 m0 e0, .bool s1, .slice A1 n1 c1, .slice D1 m1 e1, .bool f0, .bool h0] ∧ EndV w L s0 (.slice A0 n0 c0) (.slice D0 m0 e0) f0 s.lo ∧ EndV w L s1 (.slice A1 n1 c1) (.slice D1 m1 e1) h0 s.hi
theorem firm_spe (L : Nat) (cs : List Value) (s : Sp) : Firm fun w => SpE w L cs s :=
  Firm.ex fun _ => Firm.ex fun _ => Firm.ex fun _ => Firm.ex fun _ => Firm.ex fun _ => Firm.ex fun _ => Firm.ex fun _ => Firm.ex fun _ => Firm.ex fun _ => Firm.ex fun _ => Firm.ex fun _ => Firm.ex fun _ => Firm.ex fun _ => Firm.ex fun _ => Firm.ex fun _ => Firm.ex fun _ => (Firm.const _).and ((firm_end _ _ _ _ _ _).and (firm_end _ _ _ _ _ _))
/-- The cells of an end, with its change. -/
def EnE (w : World) (L : Nat) (cs : List Value) (e : Rat × Int) : Prop := ∃ (s0 : Bool), ∃ (A0 : Option Addr), ∃ (n0 : Nat), ∃ (c0 : Nat), ∃ (D0 : Option Addr), ∃ (m0 : Nat), ∃ (e0 : Nat), cs = [.bool s0, .slice A0 n0 c0, .slice D0 m0 e0, .int .i64 e.2] ∧ NQ w s0 (.slice A0 n0 c0) (.slice D0 m0 e0) e.1 L
theorem firm_ene (L : Nat) (cs : List Value) (e : Rat × Int) : Firm fun w => EnE w L cs e :=
  Firm.ex fun _ => Firm.ex fun _ => Firm.ex fun _ => Firm.ex fun _ => Firm.ex fun _ => Firm.ex fun _ => Firm.ex fun _ => (Firm.const _).and (firm_nq _ _ _ _ _)
/-- A set of spans of the program in memory. -/
def SpS (w : World) (L : Nat) (v : Value) (l : List Sp) : Prop := ∃ css, ReadR w 8 v css ∧ All2 (SpE w L) css l
theorem SpS.below {w' : World} {v : Value} (h : SpS w L v l) (hb : Below w.heap.size w w') : SpS w' L v l := by
  obtain ⟨css, h1, h2⟩ := h
  exact ⟨css, h1.below hb, h2.mono fun a b r => (firm_spe L a b).below r hb⟩
/-- A list of ends in memory. -/
def EnS (w : World) (L : Nat) (v : Value) (l : List (Rat × Int)) : Prop := ∃ css, ReadR w 4 v css ∧ All2 (EnE w L) css l
theorem EnS.below {w' : World} {v : Value} {l : List (Rat × Int)} (h : EnS w L v l) (hb : Below w.heap.size w w') : EnS w' L v l := by
  obtain ⟨css, h1, h2⟩ := h
  exact ⟨css, h1.below hb, h2.mono fun a b r => (firm_ene L a b).below r hb⟩
theorem raw_len0 {A : Option Addr} {n c : Nat} (h : Raw w (.slice A n c) []) : n = 0 := by
  obtain ⟨_, _, A', c', e, _⟩ := h
  injection e
set_option maxRecDepth 100000 in
set_option maxHeartbeats 4000000 in
theorem vend_v (hv : EndV w L s0 (.slice A0 n0 c0) (.slice D0 m0 e0) f0 o0) (hL : L ≤ 1000000) :
    Calls Tryz.prog 47 #[.agg #[.bool s0, .slice A0 n0 c0, .slice D0 m0 e0], .bool f0] w fun e w' => e = .returned (.bool true) ∧ Below w.heap.size w w' := by
  rcases hv with ⟨rfl, q, rfl, h⟩ | ⟨rfl, rfl, rfl, h, h'⟩
  · skip
    go_enter Tryz.func47, Tryz.ntmps47
    go_wp2_with fail
    obtain ⟨W0, hW, b0, hbW, hszW0⟩ := boxes1 w #[.bool s0, .slice A0 n0 c0, .slice D0 m0 e0] 28
    rw [hW]
    clear hW
    replace h := h.below hbW
    have H0 := hbW
    clear hbW
    obtain ⟨cb00, cb01, cb02⟩ := b0.cells3
    go_wp2_with fail
    clear cb00 cb01 cb02
    refine (rnormal_d h hL).mono ?_
    rintro e w1 ⟨rfl, hb⟩
    replace h := h.below hb
    replace b0 := b0.below hb
    replace H0 := H0.trans (hb.mono H0.size)
    clear hb
    go_wp2_with fail
    go_returns
    exact ⟨rfl, H0⟩
  · skip
    have k1 := raw_len0 h
    have k2 := raw_len0 h'
    subst k1 k2
    go_enter Tryz.func47, Tryz.ntmps47
    go_wp2_with fail
    obtain ⟨W0, hW, b0, hbW, hszW0⟩ := boxes1 w #[.bool false, .slice A0 0 c0, .slice D0 0 e0] 28
    rw [hW]
    clear hW
    have H0 := hbW
    clear hbW
    obtain ⟨cb00, cb01, cb02⟩ := b0.cells3
    go_wp2_with fail
    go_returns
    exact ⟨rfl, H0⟩
set_option maxRecDepth 100000 in
set_option maxHeartbeats 4000000 in
theorem vspan_v (hv : EndV w L s0 (.slice A0 n0 c0) (.slice D0 m0 e0) f0 o0) (hw : EndV w L s1 (.slice A1 n1 c1) (.slice D1 m1 e1) h0 o1) (hlt : ∀ a b, o0 = some a → o1 = some b → a < b) (hL : L ≤ 100000) :
    Calls Tryz.prog 12 #[.agg #[.bool s0, .slice A0 n0 c0, .slice D0 m0 e0, .bool s1, .slice A1 n1 c1, .slice D1 m1 e1, .bool f0, .bool h0]] w fun e w' => e = .returned (.bool true) ∧ Below w.heap.size w w' := by
  have k0 := hv
  have k1 := hw
  rcases hv with ⟨rfl, q0, rfl, h⟩ | ⟨rfl, rfl, rfl, h, h'⟩
  · rcases hw with ⟨rfl, q1, rfl, j⟩ | ⟨rfl, rfl, rfl, j, j'⟩
    · skip
      have HS := Lib.hid (rsg_lt (hlt q0 q1 rfl rfl))
      clear hlt
      go_enter Tryz.func12, Tryz.ntmps12
      go_wp2_with fail
      obtain ⟨W0, hW, b0, hbW, hszW0⟩ := boxes1 w #[.bool s0, .slice A0 n0 c0, .slice D0 m0 e0, .bool s1, .slice A1 n1 c1, .slice D1 m1 e1, .bool false, .bool false] 32
      rw [hW]
      clear hW
      replace k0 := k0.below hbW
      replace k1 := k1.below hbW
      replace h := h.below hbW
      replace j := j.below hbW
      have H0 := hbW
      clear hbW
      obtain ⟨cb00, cb01, cb02, cb03, cb04, cb05, cb06, cb07⟩ := b0.cells8
      go_wp2_with fail
      clear cb00 cb01 cb02 cb03 cb04 cb05 cb06 cb07
      refine (vend_v k0 (by omega)).mono ?_
      rintro e w1 ⟨rfl, hb⟩
      replace k0 := k0.below hb
      replace k1 := k1.below hb
      replace h := h.below hb
      replace j := j.below hb
      replace b0 := b0.below hb
      replace H0 := H0.trans (hb.mono H0.size)
      clear hb
      obtain ⟨cb00, cb01, cb02, cb03, cb04, cb05, cb06, cb07⟩ := b0.cells8
      go_wp2_with fail
      clear cb00 cb01 cb02 cb03 cb04 cb05 cb06 cb07
      refine (vend_v k1 (by omega)).mono ?_
      rintro e w2 ⟨rfl, hb⟩
      replace k0 := k0.below hb
      replace k1 := k1.below hb
      replace h := h.below hb
      replace j := j.below hb
      replace b0 := b0.below hb
      replace H0 := H0.trans (hb.mono H0.size)
      clear hb
      obtain ⟨cb00, cb01, cb02, cb03, cb04, cb05, cb06, cb07⟩ := b0.cells8
      go_wp2_with fail
      clear cb00 cb01 cb02 cb03 cb04 cb05 cb06 cb07
      refine (rcmp_v h.rq j.rq (by omega) (by omega) HS.out).mono ?_
      rintro e w3 ⟨rfl, hb⟩
      replace k0 := k0.below hb
      replace k1 := k1.below hb
      replace h := h.below hb
      replace j := j.below hb
      replace b0 := b0.below hb
      replace H0 := H0.trans (hb.mono H0.size)
      clear hb
      go_wp2_with fail
      go_returns
      exact ⟨rfl, H0⟩
    · skip
      clear hlt
      clear h
      clear j j'
      go_enter Tryz.func12, Tryz.ntmps12
      go_wp2_with fail
      obtain ⟨W0, hW, b0, hbW, hszW0⟩ := boxes1 w #[.bool s0, .slice A0 n0 c0, .slice D0 m0 e0, .bool false, .slice A1 n1 c1, .slice D1 m1 e1, .bool false, .bool true] 32
      rw [hW]
      clear hW
      replace k0 := k0.below hbW
      replace k1 := k1.below hbW
      have H0 := hbW
      clear hbW
      obtain ⟨cb00, cb01, cb02, cb03, cb04, cb05, cb06, cb07⟩ := b0.cells8
      go_wp2_with fail
      clear cb00 cb01 cb02 cb03 cb04 cb05 cb06 cb07
      refine (vend_v k0 (by omega)).mono ?_
      rintro e w1 ⟨rfl, hb⟩
      replace k0 := k0.below hb
      replace k1 := k1.below hb
      replace b0 := b0.below hb
      replace H0 := H0.trans (hb.mono H0.size)
      clear hb
      obtain ⟨cb00, cb01, cb02, cb03, cb04, cb05, cb06, cb07⟩ := b0.cells8
      go_wp2_with fail
      clear cb00 cb01 cb02 cb03 cb04 cb05 cb06 cb07
      refine (vend_v k1 (by omega)).mono ?_
      rintro e w2 ⟨rfl, hb⟩
      replace k0 := k0.below hb
      replace k1 := k1.below hb
      replace b0 := b0.below hb
      replace H0 := H0.trans (hb.mono H0.size)
      clear hb
      obtain ⟨cb00, cb01, cb02, cb03, cb04, cb05, cb06, cb07⟩ := b0.cells8
      go_wp2_with fail
      go_returns
      exact ⟨rfl, H0⟩
  · rcases hw with ⟨rfl, q1, rfl, j⟩ | ⟨rfl, rfl, rfl, j, j'⟩
    · skip
      clear hlt
      clear h h'
      clear j
      go_enter Tryz.func12, Tryz.ntmps12
      go_wp2_with fail
      obtain ⟨W0, hW, b0, hbW, hszW0⟩ := boxes1 w #[.bool false, .slice A0 n0 c0, .slice D0 m0 e0, .bool s1, .slice A1 n1 c1, .slice D1 m1 e1, .bool true, .bool false] 32
      rw [hW]
      clear hW
      replace k0 := k0.below hbW
      replace k1 := k1.below hbW
      have H0 := hbW
      clear hbW
      obtain ⟨cb00, cb01, cb02, cb03, cb04, cb05, cb06, cb07⟩ := b0.cells8
      go_wp2_with fail
      clear cb00 cb01 cb02 cb03 cb04 cb05 cb06 cb07
      refine (vend_v k0 (by omega)).mono ?_
      rintro e w1 ⟨rfl, hb⟩
      replace k0 := k0.below hb
      replace k1 := k1.below hb
      replace b0 := b0.below hb
      replace H0 := H0.trans (hb.mono H0.size)
      clear hb
      obtain ⟨cb00, cb01, cb02, cb03, cb04, cb05, cb06, cb07⟩ := b0.cells8
      go_wp2_with fail
      clear cb00 cb01 cb02 cb03 cb04 cb05 cb06 cb07
      refine (vend_v k1 (by omega)).mono ?_
      rintro e w2 ⟨rfl, hb⟩
      replace k0 := k0.below hb
      replace k1 := k1.below hb
      replace b0 := b0.below hb
      replace H0 := H0.trans (hb.mono H0.size)
      clear hb
      obtain ⟨cb00, cb01, cb02, cb03, cb04, cb05, cb06, cb07⟩ := b0.cells8
      go_wp2_with fail
      go_returns
      exact ⟨rfl, H0⟩
    · skip
      clear hlt
      clear h h'
      clear j j'
      go_enter Tryz.func12, Tryz.ntmps12
      go_wp2_with fail
      obtain ⟨W0, hW, b0, hbW, hszW0⟩ := boxes1 w #[.bool false, .slice A0 n0 c0, .slice D0 m0 e0, .bool false, .slice A1 n1 c1, .slice D1 m1 e1, .bool true, .bool true] 32
      rw [hW]
      clear hW
      replace k0 := k0.below hbW
      replace k1 := k1.below hbW
      have H0 := hbW
      clear hbW
      obtain ⟨cb00, cb01, cb02, cb03, cb04, cb05, cb06, cb07⟩ := b0.cells8
      go_wp2_with fail
      clear cb00 cb01 cb02 cb03 cb04 cb05 cb06 cb07
      refine (vend_v k0 (by omega)).mono ?_
      rintro e w1 ⟨rfl, hb⟩
      replace k0 := k0.below hb
      replace k1 := k1.below hb
      replace b0 := b0.below hb
      replace H0 := H0.trans (hb.mono H0.size)
      clear hb
      obtain ⟨cb00, cb01, cb02, cb03, cb04, cb05, cb06, cb07⟩ := b0.cells8
      go_wp2_with fail
      clear cb00 cb01 cb02 cb03 cb04 cb05 cb06 cb07
      refine (vend_v k1 (by omega)).mono ?_
      rintro e w2 ⟨rfl, hb⟩
      replace k0 := k0.below hb
      replace k1 := k1.below hb
      replace b0 := b0.below hb
      replace H0 := H0.trans (hb.mono H0.size)
      clear hb
      obtain ⟨cb00, cb01, cb02, cb03, cb04, cb05, cb06, cb07⟩ := b0.cells8
      go_wp2_with fail
      go_returns
      exact ⟨rfl, H0⟩
set_option maxRecDepth 100000 in
set_option maxHeartbeats 4000000 in
theorem before_v (h : NQ w s1 (.slice A1 n1 c1) (.slice D1 m1 e1) q0 L) (j : NQ w s2 (.slice A2 n2 c2) (.slice D2 m2 e2) q1 L) (hlt : q0 < q1) (hL : L ≤ 100000) :
    Calls Tryz.prog 55 #[.agg #[.bool s0, .slice A0 n0 c0, .slice D0 m0 e0, .bool s1, .slice A1 n1 c1, .slice D1 m1 e1, .bool f0, .bool false], .agg #[.bool s2, .slice A2 n2 c2, .slice D2 m2 e2, .bool s3, .slice A3 n3 c3, .slice D3 m3 e3, .bool false, .bool h1]] w fun e w' => e = .returned (.bool true) ∧ Below w.heap.size w w' := by
  have HS := Lib.hid (rsg_lt hlt)
  clear hlt
  go_enter Tryz.func55, Tryz.ntmps55
  go_wp2_with fail
  obtain ⟨W0, hW, b0, b1, hbW, hszW0⟩ := boxes2 w #[.bool s0, .slice A0 n0 c0, .slice D0 m0 e0, .bool s1, .slice A1 n1 c1, .slice D1 m1 e1, .bool f0, .bool false] #[.bool s2, .slice A2 n2 c2, .slice D2 m2 e2, .bool s3, .slice A3 n3 c3, .slice D3 m3 e3, .bool false, .bool h1] 32 32
  rw [hW]
  clear hW
  replace h := h.below hbW
  replace j := j.below hbW
  have H0 := hbW
  clear hbW
  obtain ⟨cb00, cb01, cb02, cb03, cb04, cb05, cb06, cb07⟩ := b0.cells8
  obtain ⟨cb10, cb11, cb12, cb13, cb14, cb15, cb16, cb17⟩ := b1.cells8
  go_wp2_with fail
  clear cb00 cb01 cb02 cb03 cb04 cb05 cb06 cb07 cb10 cb11 cb12 cb13 cb14 cb15 cb16 cb17
  refine (rcmp_v h.rq j.rq hL hL HS.out).mono ?_
  rintro e w1 ⟨rfl, hb⟩
  replace h := h.below hb
  replace j := j.below hb
  replace b0 := b0.below hb
  replace b1 := b1.below hb
  replace H0 := H0.trans (hb.mono H0.size)
  clear hb
  go_wp2_with fail
  go_returns
  exact ⟨rfl, H0⟩
end
end Go.Proofs.YtpgkkkodniiilaaGreatDoor
namespace Go.Proofs.YtpgkkkodniiilaaGreatDoor
open List (getElem_toArray getElem_cons_succ getElem_cons_zero setIfInBounds_toArray set_cons_zero set_cons_succ)
open Go.RowKit
section
variable {f0 h0 f1 h1 f2 h2 f3 h3 f4 h4 f5 h5 f6 h6 f7 h7 f8 h8 f9 h9 f10 h10 f11 h11 : Bool} {A0 A1 A2 A3 A9 D0 D1 D2 D3 : Option Addr} {n0 n1 n2 n3 c0 c1 c2 c3 c4 c5 c6 c7 c9 m0 m1 m2 m3 e0 e1 e2 e3 e4 : Nat} {s0 s1 s2 s3 : Bool} {q0 q1 q2 q3 q4 q5 q6 q7 : Rat} {z0 z1 z2 z3 z4 z5 z6 z7 z8 z9 z10 z11 : Int} {L L0 L1 x y : Nat} {k : Int} {b : Bool} {w : World}
variable {o0 o1 o2 o3 : Option Rat} {l l' : List Sp}
theorem ReadR.form {v : Value} {k : Nat} {css : List (List Value)} (h : ReadR w k v css) : ∃ A c, v = .slice A css.length c ∧ css.length ≤ c ∧ c ≤ maxLen := by
  obtain ⟨_, A, c, h1, h2, h3, _⟩ := h
  exact ⟨A, c, h1, h2, h3⟩
theorem SpS.form {v : Value} (h : SpS w L v l) : ∃ A c, v = .slice A l.length c ∧ l.length ≤ c ∧ c ≤ maxLen := by
  obtain ⟨css, h1, h2⟩ := h
  rw [← h2.len]; exact h1.form
theorem EnS.form {v : Value} {l : List (Rat × Int)} (h : EnS w L v l) : ∃ A c, v = .slice A l.length c ∧ l.length ≤ c ∧ c ≤ maxLen := by
  obtain ⟨css, h1, h2⟩ := h
  rw [← h2.len]; exact h1.form
/-- Both ends of each span are in order. -/
def OkS (l : List Sp) : Prop := ∀ s ∈ l, ∀ a b, s.lo = some a → s.hi = some b → a < b
theorem SpS.elem {A : Option Addr} {n c i : Nat} {l : List (Sp)} {s : Sp} (h : SpS w L (.slice A n c) l) (hi : l[i]? = some s) : ∃ g o, ∃ (s0 : Bool), ∃ (A0 : Option Addr), ∃ (n0 : Nat), ∃ (c0 : Nat), ∃ (D0 : Option Addr), ∃ (m0 : Nat), ∃ (e0 : Nat), ∃ (s1 : Bool), ∃ (A1 : Option Addr), ∃ (n1 : Nat), ∃ (c1 : Nat), ∃ (D1 : Option Addr), ∃ (m1 : Nat), ∃ (e1 : Nat), ∃ (f0 : Bool), ∃ (h0 : Bool), A = some ⟨g, o, none⟩ ∧ w.cell? ⟨g, o + i * 8, none⟩ = some (.bool s0) ∧ w.cell? ⟨g, o + i * 8 + 1, none⟩ = some (.slice A0 n0 c0) ∧ w.cell? ⟨g, o + i * 8 + 2, none⟩ = some (.slice D0 m0 e0) ∧ w.cell? ⟨g, o + i * 8 + 3, none⟩ = some (.bool s1) ∧ w.cell? ⟨g, o + i * 8 + 4, none⟩ = some (.slice A1 n1 c1) ∧ w.cell? ⟨g, o + i * 8 + 5, none⟩ = some (.slice D1 m1 e1) ∧ w.cell? ⟨g, o + i * 8 + 6, none⟩ = some (.bool f0) ∧ w.cell? ⟨g, o + i * 8 + 7, none⟩ = some (.bool h0) ∧ EndV w L s0 (.slice A0 n0 c0) (.slice D0 m0 e0) f0 s.lo ∧ EndV w L s1 (.slice A1 n1 c1) (.slice D1 m1 e1) h0 s.hi := by
  obtain ⟨css, ⟨hk, A', c', e1, _, _, hr⟩, ha⟩ := h
  injection e1 with e1 e2 e3
  subst e1 e2 e3
  obtain ⟨cs, hcs, hE⟩ := ha.get hi
  obtain ⟨s0, A0, n0, c0, D0, m0, e0, s1, A1, n1, c1, D1, m1, e1, f0, h0, rfl, hE0, hE1⟩ := hE
  obtain ⟨g, o, e4, hcell⟩ := hr (by rintro rfl; cases hcs)
  have hc := fun j x hx => hcell i _ hcs j x hx
  refine ⟨g, o, s0, A0, n0, c0, D0, m0, e0, s1, A1, n1, c1, D1, m1, e1, f0, h0, e4, ?_, ?_, ?_, ?_, ?_, ?_, ?_, ?_, hE0, hE1⟩
  · exact hc 0 _ rfl
  · rw [Nat.add_assoc]; exact hc 1 _ rfl
  · rw [Nat.add_assoc]; exact hc 2 _ rfl
  · rw [Nat.add_assoc]; exact hc 3 _ rfl
  · rw [Nat.add_assoc]; exact hc 4 _ rfl
  · rw [Nat.add_assoc]; exact hc 5 _ rfl
  · rw [Nat.add_assoc]; exact hc 6 _ rfl
  · rw [Nat.add_assoc]; exact hc 7 _ rfl
theorem EnS.elem {A : Option Addr} {n c i : Nat} {l : List (Rat × Int)} {s : Rat × Int} (h : EnS w L (.slice A n c) l) (hi : l[i]? = some s) : ∃ g o, ∃ (s0 : Bool), ∃ (A0 : Option Addr), ∃ (n0 : Nat), ∃ (c0 : Nat), ∃ (D0 : Option Addr), ∃ (m0 : Nat), ∃ (e0 : Nat), A = some ⟨g, o, none⟩ ∧ w.cell? ⟨g, o + i * 4, none⟩ = some (.bool s0) ∧ w.cell? ⟨g, o + i * 4 + 1, none⟩ = some (.slice A0 n0 c0) ∧ w.cell? ⟨g, o + i * 4 + 2, none⟩ = some (.slice D0 m0 e0) ∧ w.cell? ⟨g, o + i * 4 + 3, none⟩ = some (.int .i64 s.2) ∧ NQ w s0 (.slice A0 n0 c0) (.slice D0 m0 e0) s.1 L := by
  obtain ⟨css, ⟨hk, A', c', e1, _, _, hr⟩, ha⟩ := h
  injection e1 with e1 e2 e3
  subst e1 e2 e3
  obtain ⟨cs, hcs, hE⟩ := ha.get hi
  obtain ⟨s0, A0, n0, c0, D0, m0, e0, rfl, hE0⟩ := hE
  obtain ⟨g, o, e4, hcell⟩ := hr (by rintro rfl; cases hcs)
  have hc := fun j x hx => hcell i _ hcs j x hx
  refine ⟨g, o, s0, A0, n0, c0, D0, m0, e0, e4, ?_, ?_, ?_, ?_, hE0⟩
  · exact hc 0 _ rfl
  · rw [Nat.add_assoc]; exact hc 1 _ rfl
  · rw [Nat.add_assoc]; exact hc 2 _ rfl
  · rw [Nat.add_assoc]; exact hc 3 _ rfl
set_option maxRecDepth 100000 in
set_option maxHeartbeats 600000 in
theorem vclos_v (hv : EndV w L s0 (.slice A0 n0 c0) (.slice D0 m0 e0) f0 o0) (hw : EndV w L s1 (.slice A1 n1 c1) (.slice D1 m1 e1) h0 o1) (hlt : ∀ a b, o0 = some a → o1 = some b → a < b) (hL : L ≤ 100000) :
    Calls Tryz.prog 94 #[.agg #[.bool s0, .slice A0 n0 c0, .slice D0 m0 e0, .bool s1, .slice A1 n1 c1, .slice D1 m1 e1, .bool f0, .bool h0]] w fun e w' => e = .returned (.bool false) ∧ Below w.heap.size w w' := by
  have HL := Lib.hid hlt
  clear hlt
  go_enter Tryz.func94, Tryz.ntmps94
  go_wp2_with fail
  obtain ⟨W0, hW, b0, hbW, hszW0⟩ := boxes1 w #[.bool s0, .slice A0 n0 c0, .slice D0 m0 e0, .bool s1, .slice A1 n1 c1, .slice D1 m1 e1, .bool f0, .bool h0] 32
  rw [hW]
  clear hW
  replace hv := hv.below hbW
  replace hw := hw.below hbW
  have H0 := hbW
  clear hbW
  obtain ⟨cb00, cb01, cb02, cb03, cb04, cb05, cb06, cb07⟩ := b0.cells8
  go_wp2_with fail
  clear cb00 cb01 cb02 cb03 cb04 cb05 cb06 cb07
  refine (vspan_v hv hw HL.out hL).mono ?_
  rintro e w1 ⟨rfl, hb⟩
  replace hv := hv.below hb
  replace hw := hw.below hb
  replace b0 := b0.below hb
  replace H0 := H0.trans (hb.mono H0.size)
  clear hb
  go_wp2_with fail
  go_returns
  exact ⟨rfl, H0⟩
set_option maxRecDepth 100000 in
set_option maxHeartbeats 600000 in
theorem vindex_v {v : Value} (hS : SpS w L v l) (hok : OkS l) (hL : L ≤ 100000) :
    Calls Tryz.prog 109 #[v, .func (.func 94) #[] #[]] w fun e w' => e = .returned (.int .i64 (-1)) ∧ Below w.heap.size w w' := by
  obtain ⟨A, c, rfl, hc1, hc2⟩ := hS.form
  unfold maxLen at hc2
  have HO := Lib.hid hok
  clear hok
  go_enter Tryz.func109, Tryz.ntmps109
  go_wp2_with fail
  go_loopw [5, 8] (fun _ t8 wr => ∃ i : Nat, i ≤ l.length ∧ t8 = .int .i64 i ∧ Below w.heap.size w wr) (fun _ t8 _ => l.length - (intOf t8).toNat)
  case atStart => exact ⟨0, Nat.zero_le _, rfl, Below.refl _ _⟩
  case round =>
    obtain ⟨i, hi, rfl, H0⟩ := hrel
    by_cases hlt : i < l.length
    · obtain ⟨g, o, s0, A0, n0, c0, D0, m0, e0, s1, A1, n1, c1, D1, m1, e1, f0, h0, rfl, c0, c1, c2, c3, c4, c5, c6, c7, k0, k1⟩ := (hS.below H0).elem (List.getElem?_eq_getElem hlt)
      have HOI := Lib.hid (HO.out _ (List.getElem_mem hlt))
      clear hS
      go_wp2_with fail
      refine (vclos_v k0 k1 HOI.out hL).mono ?_
      rintro e w1 ⟨rfl, hb⟩
      replace H0 := H0.trans (hb.mono H0.size)
      clear hb k0 k1 c0 c1 c2 c3 c4 c5 c6 c7
      go_wp2_with fail
      go_roundw
      case rel => exact ⟨i + 1, by omega, by go_num, H0⟩
      case measure => simp [intOf]; omega
    · clear hS
      go_wp2_with fail
      go_ret
      exact ⟨rfl, H0⟩
/-- A cell, kept from the walk. -/
def CellF (w : World) (p : Addr) (v : Value) : Prop := w.cell? p = some v
theorem CellF.eq {p : Addr} {v : Value} (h : CellF w p v) : w.cell? p = some v := h
theorem CellF.below {w' : World} {p : Addr} {v : Value} (h : CellF w p v) (hb : Below w.heap.size w w') : CellF w' p v := (hb.cell (World.block_lt_of_cell? w p h)).trans h
theorem EndV.yes {s : Bool} {v u : Value} {no : Bool} {q : Rat} {o : Option Rat} (h : EndV w L s v u no o) (ho : o = some q) : no = false ∧ NQ w s v u q L := by
  rcases h with ⟨h1, q', h2, h3⟩ | ⟨_, h2, _⟩
  · rw [ho] at h2; injection h2 with h2; subst h2; exact ⟨h1, h3⟩
  · rw [ho] at h2; cases h2
theorem EndV.no {s : Bool} {v u : Value} {no : Bool} {o : Option Rat} (h : EndV w L s v u no o) (ho : o = none) : no = true ∧ s = false ∧ Raw w v [] ∧ Raw w u [] := by
  rcases h with ⟨_, q, h2, _⟩ | ⟨h1, _, h2, h3, h4⟩
  · rw [ho] at h2; cases h2
  · exact ⟨h1, h2, h3, h4⟩
/-- Each span ends before the next one begins. -/
def SepS (l : List Sp) : Prop := ∀ i s t, l[i]? = some s → l[i + 1]? = some t → ∃ a c, s.hi = some a ∧ t.lo = some c ∧ a < c
set_option maxRecDepth 100000 in
set_option maxHeartbeats 600000 in
theorem vcont_v {v : Value} (hS : SpS w L v l) (hok : OkS l) (hL : L ≤ 100000) :
    Calls Tryz.prog 79 #[v, .func (.func 94) #[] #[]] w fun e w' => e = .returned (.bool false) ∧ Below w.heap.size w w' := by
  go_enter Tryz.func79, Tryz.ntmps79
  go_wp2_with fail
  refine (vindex_v hS hok hL).mono ?_
  rintro e w0 ⟨rfl, hb⟩
  have H0 := hb
  clear hb
  go_wp2_with fail
  go_returns
  exact ⟨rfl, H0⟩
set_option maxRecDepth 100000 in
set_option maxHeartbeats 600000 in
theorem vlist_v {v : Value} (hS : SpS w L v l) (hok : OkS l) (hn : l.length ≤ 4096) (hL : L ≤ 100000) :
    Calls Tryz.prog 54 #[v] w fun e w' => e = .returned (.bool true) ∧ Below w.heap.size w w' := by
  obtain ⟨A, c, hv, hc1, hc2⟩ := hS.form
  subst hv
  unfold maxLen at hc2
  have h49 : decide ((4096 : Int) < (l.length : Int)) = false := by rw [decide_eq_false_iff_not]; omega
  go_enter Tryz.func54, Tryz.ntmps54
  go_wp2_with fail
  refine (vcont_v hS hok hL).mono ?_
  rintro e w0 ⟨rfl, hb⟩
  have H0 := hb
  clear hb
  go_wp2_with fail
  go_returns
  exact ⟨rfl, H0⟩
set_option maxRecDepth 100000 in
set_option maxHeartbeats 600000 in
theorem valid_v {v : Value} (hS : SpS w L v l) (hok : OkS l) (hsep : SepS l) (hn : l.length ≤ 4096) (hL : L ≤ 100000) :
    Calls Tryz.prog 17 #[v] w fun e w' => e = .returned (.bool true) ∧ Below w.heap.size w w' := by
  obtain ⟨A, c, rfl, hc1, hc2⟩ := hS.form
  unfold maxLen at hc2
  have HP := Lib.hid hsep
  clear hsep
  go_enter Tryz.func17, Tryz.ntmps17
  go_wp2_with fail
  refine (vlist_v hS hok hn (by omega)).mono ?_
  rintro e w1 ⟨rfl, hb⟩
  have H9 := hb
  clear hb
  go_wp2_with fail
  go_loopw [3] (fun t3 wr => ∃ k : Nat, t3 = .int .i64 ((k : Int) + 1) ∧ k ≤ l.length ∧ Below w.heap.size w wr) (fun t3 _ => l.length + 1 - (intOf t3).toNat)
  case atStart => exact ⟨0, rfl, by omega, H9⟩
  case round =>
    clear H9
    obtain ⟨k, rfl, hk, H0⟩ := hrel
    by_cases hlt : k + 1 < l.length
    · obtain ⟨g, o, s0, A0, n0, c0, D0, m0, e0, s1, A1, n1, c1, D1, m1, e1, f0, h0, eA, cc0, cc1, cc2, cc3, cc4, cc5, cc6, cc7, y0, y1⟩ := (hS.below H0).elem (List.getElem?_eq_getElem (show k < l.length by omega))
      obtain ⟨g', o', s2, A2, n2, c2, D2, m2, e2, s3, A3, n3, c3, D3, m3, e3, f1, h1, eA', dd0, dd1, dd2, dd3, dd4, dd5, dd6, dd7, y2, y3⟩ := (hS.below H0).elem (List.getElem?_eq_getElem hlt)
      rw [eA] at eA'
      injection eA' with eA'
      injection eA' with e1 e2
      subst e1 e2 eA
      obtain ⟨a, b, e1, e2, hab⟩ := HP.out k _ _ (List.getElem?_eq_getElem (show k < l.length by omega)) (List.getElem?_eq_getElem hlt)
      obtain ⟨e3, k0⟩ := y1.yes e1
      obtain ⟨e4, k1⟩ := y2.yes e2
      subst e3 e4
      have HS := Lib.hid hab
      have p0 : CellF wr _ _ := cc0
      have r0 : CellF wr _ _ := dd0
      have p1 : CellF wr _ _ := cc1
      have r1 : CellF wr _ _ := dd1
      have p2 : CellF wr _ _ := cc2
      have r2 : CellF wr _ _ := dd2
      have p3 : CellF wr _ _ := cc3
      have r3 : CellF wr _ _ := dd3
      have p4 : CellF wr _ _ := cc4
      have r4 : CellF wr _ _ := dd4
      have p5 : CellF wr _ _ := cc5
      have r5 : CellF wr _ _ := dd5
      have p6 : CellF wr _ _ := cc6
      have r6 : CellF wr _ _ := dd6
      have p7 : CellF wr _ _ := cc7
      have r7 : CellF wr _ _ := dd7
      clear e1 e2 hab y0 y1 y2 y3 cc0 dd0 cc1 dd1 cc2 dd2 cc3 dd3 cc4 dd4 cc5 dd5 cc6 dd6 cc7 dd7 hS
      have hw1 : IntKind.i64.wrap (k : Int) = k := IntWalk.i64_in _ (by omega)
      have hw2 : ((k : Int) + 1).toNat = k + 1 := by omega
      have hd : decide ((k : Int) + 1 < (l.length : Int)) = true := decide_eq_true (by omega)
      have hb0 : k < l.length := by omega
      have hb1 : (0 : Int) ≤ (k : Int) + 1 := by omega
      have hb2 : (k : Int) + 1 < (l.length : Int) := by omega
      clear hlt
      go_wp2_with fail
      have hD := drawn_below wr
      replace k0 := k0.below hD
      replace k1 := k1.below hD
      replace p0 := p0.below hD
      replace p1 := p1.below hD
      replace p2 := p2.below hD
      replace p3 := p3.below hD
      replace p4 := p4.below hD
      replace p5 := p5.below hD
      replace p6 := p6.below hD
      replace p7 := p7.below hD
      replace r0 := r0.below hD
      replace r1 := r1.below hD
      replace r2 := r2.below hD
      replace r3 := r3.below hD
      replace r4 := r4.below hD
      replace r5 := r5.below hD
      replace r6 := r6.below hD
      replace r7 := r7.below hD
      replace H0 := H0.trans (hD.mono H0.size)
      clear hD
      refine wp_region_noPanic ?_
      refine wp_region_held_drew (S := (fun V => V.cell? ⟨g, o + k * 8, none⟩ = some (.bool s0) ∧ V.cell? ⟨g, o + k * 8 + 1, none⟩ = some (.slice A0 n0 c0) ∧ V.cell? ⟨g, o + k * 8 + 2, none⟩ = some (.slice D0 m0 e0) ∧ V.cell? ⟨g, o + k * 8 + 3, none⟩ = some (.bool s1) ∧ V.cell? ⟨g, o + k * 8 + 4, none⟩ = some (.slice A1 n1 c1) ∧ V.cell? ⟨g, o + k * 8 + 5, none⟩ = some (.slice D1 m1 e1) ∧ V.cell? ⟨g, o + k * 8 + 6, none⟩ = some (.bool f0) ∧ V.cell? ⟨g, o + k * 8 + 7, none⟩ = some (.bool false) ∧ V.cell? ⟨g, o + (k + 1) * 8, none⟩ = some (.bool s2) ∧ V.cell? ⟨g, o + (k + 1) * 8 + 1, none⟩ = some (.slice A2 n2 c2) ∧ V.cell? ⟨g, o + (k + 1) * 8 + 2, none⟩ = some (.slice D2 m2 e2) ∧ V.cell? ⟨g, o + (k + 1) * 8 + 3, none⟩ = some (.bool s3) ∧ V.cell? ⟨g, o + (k + 1) * 8 + 4, none⟩ = some (.slice A3 n3 c3) ∧ V.cell? ⟨g, o + (k + 1) * 8 + 5, none⟩ = some (.slice D3 m3 e3) ∧ V.cell? ⟨g, o + (k + 1) * 8 + 6, none⟩ = some (.bool false) ∧ V.cell? ⟨g, o + (k + 1) * 8 + 7, none⟩ = some (.bool h1))) (by kernel_rfl) ⟨p0.eq, p1.eq, p2.eq, p3.eq, p4.eq, p5.eq, p6.eq, p7.eq, r0.eq, r1.eq, r2.eq, r3.eq, r4.eq, r5.eq, r6.eq, r7.eq⟩ (fun hHeld => ?_)
      generalize wr.drew = v100 at H0 hHeld k0 k1 p0 p1 p2 p3 p4 p5 p6 p7 r0 r1 r2 r3 r4 r5 r6 r7 ⊢
      refine todo [0, 1, 5, 6, 2, 7, 3, 8, 4] ?_
      iterate 9
        refine tkT ?_ rfl (by kernel_rfl) (fun _ _ _ h => h) (by rfl) (by assumption) ?_ ?_
        rotate_left
        · (intro w hSw; (try dsimp only at hSw); go_simp; (try with_reducible rfl))
        (try simp only [getElem_toArray, getElem_cons_succ, getElem_cons_zero, Act.put, setIfInBounds_toArray, set_cons_zero, set_cons_succ])
      refine tdone ?_
      refine rd1 9 (by kernel_rfl) rfl (fun K hK => ?_)
      go_simp
      go_at_call 55
      refine (before_v k0 k1 HS.out hL).mono ?_
      rintro e w101 ⟨rfl, hb⟩
      replace k0 := k0.below hb
      replace k1 := k1.below hb
      replace p0 := p0.below hb
      replace p1 := p1.below hb
      replace p2 := p2.below hb
      replace p3 := p3.below hb
      replace p4 := p4.below hb
      replace p5 := p5.below hb
      replace p6 := p6.below hb
      replace p7 := p7.below hb
      replace r0 := r0.below hb
      replace r1 := r1.below hb
      replace r2 := r2.below hb
      replace r3 := r3.below hb
      replace r4 := r4.below hb
      replace r5 := r5.below hb
      replace r6 := r6.below hb
      replace r7 := r7.below hb
      replace H0 := H0.trans (hb.mono H0.size)
      clear hb
      go_wp2_with fail
      refine hK.out _ _ ⟨p0.eq, p1.eq, p2.eq, p3.eq, p4.eq, p5.eq, p6.eq, p7.eq, r0.eq, r1.eq, r2.eq, r3.eq, r4.eq, r5.eq, r6.eq, r7.eq⟩ (fun hHeld => ?_)
      clear hK K
      (try simp only [getElem_toArray, getElem_cons_succ, getElem_cons_zero, Act.put, setIfInBounds_toArray, set_cons_zero, set_cons_succ])
      refine tk 10 ?_ rfl (by kernel_rfl) (fun _ _ _ h => h) (by rfl) (by assumption) ?_ ?_
      rotate_left
      · (intro w hSw; (try dsimp only at hSw); go_simp; (try with_reducible rfl))
      (try simp only [getElem_toArray, getElem_cons_succ, getElem_cons_zero, Act.put, setIfInBounds_toArray, set_cons_zero, set_cons_succ])
      refine wpAnyH_done (by kernel_rfl) ?_ _
      refine NoPanic.normal ?_
      go_wp2_with fail
      go_roundw
      case rel => exact ⟨k + 1, by go_num, by omega, H0⟩
      case measure => simp [intOf]; omega
    · clear hS
      have hd : decide ((k : Int) + 1 < (l.length : Int)) = false := decide_eq_false (by omega)
      clear hlt
      go_wp2_with fail
      go_ret
      exact ⟨rfl, H0⟩
end
end Go.Proofs.YtpgkkkodniiilaaGreatDoor
namespace Go.Proofs.YtpgkkkodniiilaaGreatDoor
open List (getElem_toArray getElem_cons_succ getElem_cons_zero setIfInBounds_toArray set_cons_zero set_cons_succ)
open Go.RowKit
section
variable {f0 h0 f1 h1 f2 h2 f3 h3 f4 h4 f5 h5 f6 h6 f7 h7 f8 h8 f9 h9 f10 h10 f11 h11 : Bool} {A0 A1 A2 A3 A9 D0 D1 D2 D3 : Option Addr} {n0 n1 n2 n3 c0 c1 c2 c3 c4 c5 c6 c7 c9 m0 m1 m2 m3 e0 e1 e2 e3 e4 : Nat} {s0 s1 s2 s3 : Bool} {q0 q1 q2 q3 q4 q5 q6 q7 : Rat} {z0 z1 z2 z3 z4 z5 z6 z7 z8 z9 z10 z11 : Int} {L L0 L1 x y : Nat} {k : Int} {b : Bool} {w : World}
variable {o0 o1 o2 o3 : Option Rat} {l l' : List Sp}
theorem len_snoc {α : Type} (l : List α) (a : α) : (l ++ [a]).length ≤ l.length + 1 := by rw [List.length_append]; exact Nat.le_refl _
theorem Box.step {g : Nat} {cs : Array Value} {t : TypeId} (h : Box w g cs t) (j : Nat) (u : Value) : Box (w.setCell ⟨g, j, none⟩ u) g (cs.setIfInBounds j u) t := by
  unfold Box; rw [heap_setCell_same w g j _ _ _ h]
section
variable {w' : World} {B : Nat} {e : TypeId} {k : Nat} {v : Value} {css : List (List Value)} {m : List (Rat × Int)}
/-- The cells css are those of the ends m. -/
def EnL (w : World) (L : Nat) (css : List (List Value)) (m : List (Rat × Int)) : Prop := All2 (EnE w L) css m
theorem firm_enl (L : Nat) (css : List (List Value)) (m : List (Rat × Int)) : Firm fun w => EnL w L css m := Firm.all2 (fun a b => firm_ene L a b) css m
theorem EnL.below (h : EnL w L css m) (hb : Below w.heap.size w w') : EnL w' L css m := (firm_enl L css m).below h hb
theorem EnL.kept {g : Nat} {cs : Array Value} {t : TypeId} (h : EnL w L css m) (hx : Box w g cs t) (hc : cs.all notInt = true) (hg : w.grownBy w' (some g)) : EnL w' L css m := (firm_enl L css m).kept h hx hc hg
theorem EnL.own (h : EnL w L css m) (ho : OwnE w B e k v css) (hg : w.grownBy w' v.ownBlock) : EnL w' L css m := (firm_enl L css m).own h ho.2.2 hg
theorem EnL.snoc {s : Bool} {A : Option Addr} {n c : Nat} {D : Option Addr} {m' e' : Nat} {q : Rat} {z : Int} (h : EnL w L css m) (hq : NQ w s (.slice A n c) (.slice D m' e') q L) : EnL w L (css ++ [[.bool s, .slice A n c, .slice D m' e', .int .i64 z]]) (m ++ [(q, z)]) :=
  All2.snoc h ⟨_, _, _, _, _, _, _, rfl, hq⟩
theorem EndV.own {s : Bool} {y u : Value} {no : Bool} {o : Option Rat} (h : EndV w L s y u no o) (ho : OwnE w B e k v css) (hg : w.grownBy w' v.ownBlock) : EndV w' L s y u no o := (firm_end L s y u no o).own h ho.2.2 hg
theorem NQ.own {s : Bool} {y u : Value} {q : Rat} (h : NQ w s y u q L) (ho : OwnE w B e k v css) (hg : w.grownBy w' v.ownBlock) : NQ w' s y u q L := (firm_nq s y u q L).own h ho.2.2 hg
theorem Box.own {g : Nat} {cs : Array Value} {t : TypeId} (h : Box w g cs t) (hg : w.grownBy w' v.ownBlock) (hne : v.ownBlock ≠ some g) : Box w' g cs t := (hg.block g h.lt (fun he => hne he.symm)).trans h
theorem OwnE.ne {g : Nat} (h : OwnE w B e k v css) (hg : g < B) : v.ownBlock ≠ some g := fun he => by have := (h.lt g he).1; omega
theorem OwnE.ne' {g : Nat} (h : OwnE w B e k v css) (hg : w.heap.size ≤ g) : v.ownBlock ≠ some g := fun he => by have := (h.lt g he).2; omega
theorem OwnE.box {g : Nat} {cs : Array Value} {t : TypeId} (h : OwnE w B e k v css) (_ : Box w g cs t) (hg : w.grownBy w' (some g)) (hne : v.ownBlock ≠ some g) : OwnE w' B e k v css := h.kept hg (.inr hne)
end
theorem tEnds_take {i : Nat} {s : Sp} (h : l[i]? = some s) : tEnds (l.take (i + 1)) = tEnds (l.take i) ++ sEnds s := by
  unfold tEnds
  rw [List.take_add_one, h, List.flatMap_append]; simp
theorem tOpen_app (l m : List Sp) : tOpen (l ++ m) = tOpen l + tOpen m := by
  induction l with
  | nil => simp [tOpen]
  | cons s l ih => simp only [List.cons_append, tOpen, ih]; omega
theorem tOpen_take {i : Nat} {s : Sp} (h : l[i]? = some s) : tOpen (l.take (i + 1)) = tOpen (l.take i) + (if s.lo = none then 1 else 0) := by
  rw [List.take_add_one, h, tOpen_app]; simp [tOpen]
theorem tOpen_bd (l : List Sp) : 0 ≤ tOpen l ∧ tOpen l ≤ l.length := by
  induction l with
  | nil => exact ⟨by decide, by decide⟩
  | cons s l ih =>
    unfold tOpen
    split <;> simp <;> omega
theorem tEnds_len (l : List Sp) : (tEnds l).length ≤ 2 * l.length := by
  induction l with
  | nil => exact Nat.zero_le _
  | cons s l ih =>
    unfold tEnds at *
    rw [List.flatMap_cons, List.length_append]
    have : (sEnds s).length ≤ 2 := by unfold sEnds; cases s.lo <;> cases s.hi <;> simp
    simp only [List.length_cons]; omega
theorem elem_end : ElemT 91 133 4 := elemT Tryz.underlying91 (by decide) (by kernel_rfl)
theorem info_tally : (Tryz.prog.info? 93).map (·.size) = some 2 := by kernel_rfl
theorem ret_tally {fn : Func} {p : Tmp} (h : fn.results = #[.cell p 93]) {tmps : Array Value} {w : World} {g : Nat} {a b : Value} {t : TypeId} (hp : tmps.getD p undef = .pointer (some ⟨g, 0, none⟩)) (hb : Box w g #[a, b] t) :
    (results fn tmps).run Tryz.prog w = .ok (.agg #[a, b]) w :=
  results_cell_row h tmps w g t #[a, b] (0, 0) _ hp hb Tryz.underlying93 rfl info_tally
/-- A tally in memory: its value, how many spans are open, its ends. -/
def TalV (w : World) (L : Nat) (v : Value) (o : Int) (m : List (Rat × Int)) : Prop := ∃ A n c, v = .agg #[.int .i64 o, .slice A n c] ∧ EnS w L (.slice A n c) m
set_option maxRecDepth 100000 in
set_option maxHeartbeats 8000000 in
theorem tally_v {v : Value} (hS : SpS w L v l) (hn : l.length ≤ 4096) :
    Calls Tryz.prog 52 #[v] w fun e w' => ∃ y, e = .returned y ∧ TalV w' L y (tOpen l) (tEnds l) ∧ Below w.heap.size w w' := by
  obtain ⟨A, c, rfl, hc1, hc2⟩ := hS.form
  unfold maxLen at hc2
  have hbd := fun i => tOpen_bd (l.take i)
  have hle := fun i => tEnds_len (l.take i)
  have hlt' : ∀ i, (l.take i).length ≤ i := fun i => List.length_take_le _ _
  have HBD := Lib.hid hbd
  have HLE := Lib.hid hle
  have HLT := Lib.hid hlt'
  clear hbd hle hlt'
  obtain ⟨V0, hV, br, bc, hbV, hszV⟩ := boxes2 w #[.int .i64 0, .slice none 0 0] #[.int .i64 0, .slice none 0 0] 93 93
  go_enter Tryz.func52, Tryz.ntmps52
  go_wp2_with fail
  clear hV
  go_loopw [8] (fun t8 wr => ∃ (i : Nat) (A9 : Option Addr) (c9 : Nat) (css : List (List Value)), i ≤ l.length ∧ t8 = .int .i64 i ∧ Box wr (w.heap.size + 1) #[.int .i64 (tOpen (l.take i)), .slice A9 css.length c9] 93 ∧ Box wr w.heap.size #[.int .i64 0, .slice none 0 0] 93 ∧ OwnE wr (w.heap.size + 1 + 1) 133 4 (.slice A9 css.length c9) css ∧ EnL wr L css (tEnds (l.take i)) ∧ Below w.heap.size w wr) (fun t8 _ => l.length - (intOf t8).toNat)
  case atStart => exact ⟨0, none, 0, [], Nat.zero_le _, rfl, bc, br, OwnE.nil _ _ _ _, trivial, hbV⟩
  case round =>
    clear bc br hbV hszV
    obtain ⟨i, A9, c9, css, hi, rfl, bc, br, hown, hall, H0⟩ := hrel
    have hcl : css.length ≤ 2 * i := by have h1 := All2.len hall; have h2 := HLE.out i; have h3 := HLT.out i; omega
    have hob : 0 ≤ tOpen (l.take i) ∧ tOpen (l.take i) ≤ i := by have h2 := HBD.out i; have h3 := HLT.out i; omega
    by_cases hlt : i < l.length
    · obtain ⟨sp, hsp⟩ : ∃ s, l[i]? = some s := ⟨_, List.getElem?_eq_getElem hlt⟩
      obtain ⟨g, o, s0, A0, n0, c0, D0, m0, e0, s1, A1, n1, c1, D1, m1, e1, f0, h0, rfl, cc0, cc1, cc2, cc3, cc4, cc5, cc6, cc7, k0, k1⟩ := (hS.below H0).elem hsp
      clear hS
      obtain ⟨W0, hW, b5, hbW, hsz⟩ := boxes1 wr #[.bool s0, .slice A0 n0 c0, .slice D0 m0 e0, .bool s1, .slice A1 n1 c1, .slice D1 m1 e1, .bool f0, .bool h0] 32
      have hn5 := hown.ne' (Nat.le_refl _)
      have lr5 := H0.size
      have lbc := bc.lt
      replace bc := bc.below hbW
      replace br := br.below hbW
      replace hown := hown.below hbW
      replace hall := hall.below hbW
      replace k0 := k0.below hbW
      replace k1 := k1.below hbW
      replace H0 := H0.trans (hbW.mono H0.size)
      obtain ⟨x0, x1, x2, x3, x4, x5, x6, x7⟩ := b5.cells8
      go_upto_if 13 with fail
      clear x0 x1 x2 x3 x4 x5 x6 x7
      clear hW hbW hsz cc0 cc1 cc2 cc3 cc4 cc5 cc6 cc7
      rcases hlo : sp.lo with _ | q0 <;> rcases hhi : sp.hi with _ | q1
      · skip
        obtain ⟨elo, ehi⟩ : sp.lo = none ∧ sp.hi = none := ⟨by assumption, by assumption⟩
        obtain ⟨rfl, rfl, -, -⟩ := k0.no elo
        obtain ⟨rfl, rfl, -, -⟩ := k1.no ehi
        clear k0 k1
        have HSP : Hid (tEnds (l.take (i + 1)) = tEnds (l.take i) ++ ([] ++ [])) := Lib.hid (by rw [tEnds_take hsp]; unfold sEnds; rw [elo, ehi])
        have HOP : Hid (tOpen (l.take (i + 1)) = tOpen (l.take i) + 1) := Lib.hid (by rw [tOpen_take hsp, elo]; rfl)
        clear elo ehi hsp
        have z0 := bc.cell 0 _ rfl
        have zf0 := bc.frozen 0
        have z1 := bc.cell 1 _ rfl
        have zf1 := bc.frozen 1
        have hwo : IntKind.i64.wrap (tOpen (l.take i) + 1) = tOpen (l.take i) + 1 := IntWalk.i64_in _ (by omega)
        go_upto_region 8 with fail
        clear z0 z1 zf0 zf1
        clear hwo
        have hg : W0.grownBy _ (some (w.heap.size + 1)) := only_setCell W0 ⟨w.heap.size + 1, 0, none⟩ (.int .i64 (tOpen (l.take i) + 1))
        have hB : Box _ _ #[.int .i64 (tOpen (l.take i) + 1), .slice A9 css.length c9] _ := bc.step 0 (.int .i64 (tOpen (l.take i) + 1))
        generalize hX : W0.setCell ⟨w.heap.size + 1, 0, none⟩ (.int .i64 (tOpen (l.take i) + 1)) = X1 at hg hB ⊢
        clear hX
        replace br := br.other hg (by omega)
        replace b5 := b5.other hg (by omega)
        replace hown := hown.box bc hg (hown.ne (by omega))
        replace hall := hall.kept bc (by simp [notInt]) hg
        replace H0 := below_only H0 hg (by omega) H0.size
        replace bc := hB
        clear hg hB
        have hln : (css : List (List Value)).length ≤ 2 * i + 1 := by omega
        obtain ⟨x0, x1, x2, x3, x4, x5, x6, x7⟩ := b5.cells8
        go_wp2_with fail
        clear x0 x1 x2 x3 x4 x5 x6 x7
        go_roundw
        case rel => exact ⟨i + 1, _, _, _, by omega, by go_num, by rw [HOP.out]; exact bc, br, hown, by rw [HSP.out]; simpa using hall, H0⟩
        case measure => simp [intOf]; omega
      · skip
        obtain ⟨elo, ehi⟩ : sp.lo = none ∧ sp.hi = some q1 := ⟨by assumption, by assumption⟩
        obtain ⟨rfl, rfl, -, -⟩ := k0.no elo
        obtain ⟨rfl, j1⟩ := k1.yes ehi
        clear k0 k1
        have HSP : Hid (tEnds (l.take (i + 1)) = tEnds (l.take i) ++ ([] ++ [(q1, -1)])) := Lib.hid (by rw [tEnds_take hsp]; unfold sEnds; rw [elo, ehi])
        have HOP : Hid (tOpen (l.take (i + 1)) = tOpen (l.take i) + 1) := Lib.hid (by rw [tOpen_take hsp, elo]; rfl)
        clear elo ehi hsp
        have z0 := bc.cell 0 _ rfl
        have zf0 := bc.frozen 0
        have z1 := bc.cell 1 _ rfl
        have zf1 := bc.frozen 1
        have hwo : IntKind.i64.wrap (tOpen (l.take i) + 1) = tOpen (l.take i) + 1 := IntWalk.i64_in _ (by omega)
        go_upto_region 8 with fail
        clear z0 z1 zf0 zf1
        clear hwo
        have hg : W0.grownBy _ (some (w.heap.size + 1)) := only_setCell W0 ⟨w.heap.size + 1, 0, none⟩ (.int .i64 (tOpen (l.take i) + 1))
        have hB : Box _ _ #[.int .i64 (tOpen (l.take i) + 1), .slice A9 css.length c9] _ := bc.step 0 (.int .i64 (tOpen (l.take i) + 1))
        generalize hX : W0.setCell ⟨w.heap.size + 1, 0, none⟩ (.int .i64 (tOpen (l.take i) + 1)) = X1 at hg hB ⊢
        clear hX
        replace br := br.other hg (by omega)
        replace b5 := b5.other hg (by omega)
        replace hown := hown.box bc hg (hown.ne (by omega))
        replace hall := hall.kept bc (by simp [notInt]) hg
        replace j1 := j1.kept bc (by simp [notInt]) hg
        replace H0 := below_only H0 hg (by omega) H0.size
        replace bc := hB
        clear hg hB
        have hln : (css : List (List Value)).length ≤ 2 * i + 1 := by omega
        obtain ⟨x0, x1, x2, x3, x4, x5, x6, x7⟩ := b5.cells8
        obtain ⟨y0, y1⟩ := bc.cells2
        have ln2 : css.length ≤ 100000 := by omega
        have lB2 : w.heap.size + 1 + 1 ≤ X1.heap.size := by have := H0.size; have := bc.lt; omega
        have hq2 : ([.bool s1, .slice A1 n1 c1, .slice D1 m1 e1, .int .i64 (-1)] : List Value).all (fun u => u.oneCell' && notInt u) = true := by simp [notInt, Value.oneCell']
        go_wp2_with (at_builtin; refine wpList_append_row (v := .slice A9 css.length c9) (css := css) rfl _ _ rfl elem_end (w.heap.size + 1 + 1) [.bool s1, .slice A1 n1 c1, .slice D1 m1 e1, .int .i64 (-1)] rfl hown rfl rfl hq2 ln2 lB2 ?_; intro v2 w2 hown2 hg2; have bc2 := bc.own hg2 (hown.ne (by omega)); have hall2 := EnL.snoc (z := -1) (hall.own hown hg2) (j1.own hown hg2); have hl2 := len_snoc css ([.bool s1, .slice A1 n1 c1, .slice D1 m1 e1, .int .i64 (-1)] : List Value); generalize css ++ [([.bool s1, .slice A1 n1 c1, .slice D1 m1 e1, .int .i64 (-1)] : List Value)] = cs2_ at hown2 hall2 hl2; obtain ⟨A2_, c2_, rfl, hc_, hm_⟩ := hown2.form; clear hc_ hm_; have z0 := bc2.cell 0 _ rfl; have z1 := bc2.cell 1 _ rfl; have zf1 := bc2.frozen 1)
        clear x0 x1 x2 x3 x4 x5 x6 x7 y0 y1
        have br1 := br.own hg2 (hown.ne (by omega))
        have H01 := H0.trans ((hown.trod hg2 lB2).mono (by omega))
        clear hall hown br b5 bc j1 hg2 lB2 ln2 H0 hn5
        have hg : w2.grownBy _ (some (w.heap.size + 1)) := only_setCell w2 ⟨w.heap.size + 1, 1, none⟩ (.slice A2_ cs2_.length c2_)
        have hB : Box _ _ #[.int .i64 (tOpen (l.take i) + 1), .slice A2_ cs2_.length c2_] _ := bc2.step 1 (.slice A2_ cs2_.length c2_)
        generalize hX : w2.setCell ⟨w.heap.size + 1, 1, none⟩ (.slice A2_ cs2_.length c2_) = X2 at hg hB ⊢
        clear hX
        have br := br1.other hg (by omega)
        have hown := hown2.box bc2 hg (hown2.ne (by omega))
        have hall := hall2.kept bc2 (by simp [notInt]) hg
        have H0 := below_only H01 hg (by omega) H01.size
        clear hg bc2 br1 hown2 hall2 H01
        go_wp2_with fail
        go_roundw
        case rel => exact ⟨i + 1, _, _, _, by omega, by go_num, by rw [HOP.out]; simpa using hB, br, hown, by rw [HSP.out]; simpa using hall, H0⟩
        case measure => simp [intOf]; omega
      · skip
        obtain ⟨elo, ehi⟩ : sp.lo = some q0 ∧ sp.hi = none := ⟨by assumption, by assumption⟩
        obtain ⟨rfl, j0⟩ := k0.yes elo
        obtain ⟨rfl, rfl, -, -⟩ := k1.no ehi
        clear k0 k1
        have HSP : Hid (tEnds (l.take (i + 1)) = tEnds (l.take i) ++ ([(q0, 1)] ++ [])) := Lib.hid (by rw [tEnds_take hsp]; unfold sEnds; rw [elo, ehi])
        have HOP : Hid (tOpen (l.take (i + 1)) = tOpen (l.take i)) := Lib.hid (by rw [tOpen_take hsp, elo]; exact Int.add_zero _)
        clear elo ehi hsp
        obtain ⟨y0, y1⟩ := bc.cells2
        obtain ⟨x0, x1, x2, x3, x4, x5, x6, x7⟩ := b5.cells8
        have ln1 : css.length ≤ 100000 := by omega
        have lB1 : w.heap.size + 1 + 1 ≤ W0.heap.size := by have := H0.size; have := bc.lt; omega
        have hq1 : ([.bool s0, .slice A0 n0 c0, .slice D0 m0 e0, .int .i64 1] : List Value).all (fun u => u.oneCell' && notInt u) = true := by simp [notInt, Value.oneCell']
        go_upto_region 8 with (at_builtin; refine wpList_append_row (v := .slice A9 css.length c9) (css := css) rfl _ _ rfl elem_end (w.heap.size + 1 + 1) [.bool s0, .slice A0 n0 c0, .slice D0 m0 e0, .int .i64 1] rfl hown rfl rfl hq1 ln1 lB1 ?_; intro v1 w1 hown1 hg1; have bc1 := bc.own hg1 (hown.ne (by omega)); have hall1 := EnL.snoc (z := 1) (hall.own hown hg1) (j0.own hown hg1); have hl1 := len_snoc css ([.bool s0, .slice A0 n0 c0, .slice D0 m0 e0, .int .i64 1] : List Value); generalize css ++ [([.bool s0, .slice A0 n0 c0, .slice D0 m0 e0, .int .i64 1] : List Value)] = cs1_ at hown1 hall1 hl1; obtain ⟨A1_, c1_, rfl, hc_, hm_⟩ := hown1.form; clear hc_ hm_; have z0 := bc1.cell 0 _ rfl; have z1 := bc1.cell 1 _ rfl; have zf1 := bc1.frozen 1)
        clear x0 x1 x2 x3 x4 x5 x6 x7
        clear y0 y1
        have b51 := b5.own hg1 hn5
        have br1 := br.own hg1 (hown.ne (by omega))
        have H01 := H0.trans ((hown.trod hg1 lB1).mono (by omega))
        clear hall hown br b5 j0 bc  hg1 lB1 ln1 H0 hn5
        have hg : w1.grownBy _ (some (w.heap.size + 1)) := only_setCell w1 ⟨w.heap.size + 1, 1, none⟩ (.slice A1_ cs1_.length c1_)
        have hB : Box _ _ #[.int .i64 (tOpen (l.take i)), .slice A1_ cs1_.length c1_] _ := bc1.step 1 (.slice A1_ cs1_.length c1_)
        generalize hX : w1.setCell ⟨w.heap.size + 1, 1, none⟩ (.slice A1_ cs1_.length c1_) = X1 at hg hB ⊢
        clear hX
        have br := br1.other hg (by omega)
        have b5 := b51.other hg (by omega)
        have hown := hown1.box bc1 hg (hown1.ne (by omega))
        have hall := hall1.kept bc1 (by simp [notInt]) hg
        have H0 := below_only H01 hg (by omega) H01.size
        have bc := hB
        clear hg hB bc1 br1 b51 hown1 hall1 H01 
        have hln : (cs1_ : List (List Value)).length ≤ 2 * i + 1 := by omega
        obtain ⟨x0, x1, x2, x3, x4, x5, x6, x7⟩ := b5.cells8
        go_wp2_with fail
        clear x0 x1 x2 x3 x4 x5 x6 x7
        go_roundw
        case rel => exact ⟨i + 1, _, _, _, by omega, by go_num, by rw [HOP.out]; exact bc, br, hown, by rw [HSP.out]; simpa using hall, H0⟩
        case measure => simp [intOf]; omega
      · skip
        obtain ⟨elo, ehi⟩ : sp.lo = some q0 ∧ sp.hi = some q1 := ⟨by assumption, by assumption⟩
        obtain ⟨rfl, j0⟩ := k0.yes elo
        obtain ⟨rfl, j1⟩ := k1.yes ehi
        clear k0 k1
        have HSP : Hid (tEnds (l.take (i + 1)) = tEnds (l.take i) ++ ([(q0, 1)] ++ [(q1, -1)])) := Lib.hid (by rw [tEnds_take hsp]; unfold sEnds; rw [elo, ehi])
        have HOP : Hid (tOpen (l.take (i + 1)) = tOpen (l.take i)) := Lib.hid (by rw [tOpen_take hsp, elo]; exact Int.add_zero _)
        clear elo ehi hsp
        obtain ⟨y0, y1⟩ := bc.cells2
        obtain ⟨x0, x1, x2, x3, x4, x5, x6, x7⟩ := b5.cells8
        have ln1 : css.length ≤ 100000 := by omega
        have lB1 : w.heap.size + 1 + 1 ≤ W0.heap.size := by have := H0.size; have := bc.lt; omega
        have hq1 : ([.bool s0, .slice A0 n0 c0, .slice D0 m0 e0, .int .i64 1] : List Value).all (fun u => u.oneCell' && notInt u) = true := by simp [notInt, Value.oneCell']
        go_upto_region 8 with (at_builtin; refine wpList_append_row (v := .slice A9 css.length c9) (css := css) rfl _ _ rfl elem_end (w.heap.size + 1 + 1) [.bool s0, .slice A0 n0 c0, .slice D0 m0 e0, .int .i64 1] rfl hown rfl rfl hq1 ln1 lB1 ?_; intro v1 w1 hown1 hg1; have bc1 := bc.own hg1 (hown.ne (by omega)); have hall1 := EnL.snoc (z := 1) (hall.own hown hg1) (j0.own hown hg1); have hl1 := len_snoc css ([.bool s0, .slice A0 n0 c0, .slice D0 m0 e0, .int .i64 1] : List Value); generalize css ++ [([.bool s0, .slice A0 n0 c0, .slice D0 m0 e0, .int .i64 1] : List Value)] = cs1_ at hown1 hall1 hl1; obtain ⟨A1_, c1_, rfl, hc_, hm_⟩ := hown1.form; clear hc_ hm_; have z0 := bc1.cell 0 _ rfl; have z1 := bc1.cell 1 _ rfl; have zf1 := bc1.frozen 1)
        clear x0 x1 x2 x3 x4 x5 x6 x7
        clear y0 y1
        have b51 := b5.own hg1 hn5
        have br1 := br.own hg1 (hown.ne (by omega))
        have j11 := j1.own hown hg1
        have H01 := H0.trans ((hown.trod hg1 lB1).mono (by omega))
        clear hall hown br b5 j0 bc j1 hg1 lB1 ln1 H0 hn5
        have hg : w1.grownBy _ (some (w.heap.size + 1)) := only_setCell w1 ⟨w.heap.size + 1, 1, none⟩ (.slice A1_ cs1_.length c1_)
        have hB : Box _ _ #[.int .i64 (tOpen (l.take i)), .slice A1_ cs1_.length c1_] _ := bc1.step 1 (.slice A1_ cs1_.length c1_)
        generalize hX : w1.setCell ⟨w.heap.size + 1, 1, none⟩ (.slice A1_ cs1_.length c1_) = X1 at hg hB ⊢
        clear hX
        have br := br1.other hg (by omega)
        have b5 := b51.other hg (by omega)
        have hown := hown1.box bc1 hg (hown1.ne (by omega))
        have hall := hall1.kept bc1 (by simp [notInt]) hg
        have j1 := j11.kept bc1 (by simp [notInt]) hg
        have H0 := below_only H01 hg (by omega) H01.size
        have bc := hB
        clear hg hB bc1 br1 b51 hown1 hall1 H01 j11
        have hln : (cs1_ : List (List Value)).length ≤ 2 * i + 1 := by omega
        obtain ⟨x0, x1, x2, x3, x4, x5, x6, x7⟩ := b5.cells8
        obtain ⟨y0, y1⟩ := bc.cells2
        have ln2 : cs1_.length ≤ 100000 := by omega
        have lB2 : w.heap.size + 1 + 1 ≤ X1.heap.size := by have := H0.size; have := bc.lt; omega
        have hq2 : ([.bool s1, .slice A1 n1 c1, .slice D1 m1 e1, .int .i64 (-1)] : List Value).all (fun u => u.oneCell' && notInt u) = true := by simp [notInt, Value.oneCell']
        go_wp2_with (at_builtin; refine wpList_append_row (v := .slice A1_ cs1_.length c1_) (css := cs1_) rfl _ _ rfl elem_end (w.heap.size + 1 + 1) [.bool s1, .slice A1 n1 c1, .slice D1 m1 e1, .int .i64 (-1)] rfl hown rfl rfl hq2 ln2 lB2 ?_; intro v2 w2 hown2 hg2; have bc2 := bc.own hg2 (hown.ne (by omega)); have hall2 := EnL.snoc (z := -1) (hall.own hown hg2) (j1.own hown hg2); have hl2 := len_snoc cs1_ ([.bool s1, .slice A1 n1 c1, .slice D1 m1 e1, .int .i64 (-1)] : List Value); generalize cs1_ ++ [([.bool s1, .slice A1 n1 c1, .slice D1 m1 e1, .int .i64 (-1)] : List Value)] = cs2_ at hown2 hall2 hl2; obtain ⟨A2_, c2_, rfl, hc_, hm_⟩ := hown2.form; clear hc_ hm_; have z0 := bc2.cell 0 _ rfl; have z1 := bc2.cell 1 _ rfl; have zf1 := bc2.frozen 1)
        clear x0 x1 x2 x3 x4 x5 x6 x7 y0 y1
        have br1 := br.own hg2 (hown.ne (by omega))
        have H01 := H0.trans ((hown.trod hg2 lB2).mono (by omega))
        clear hall hown br b5 bc j1 hg2 lB2 ln2 H0 
        have hg : w2.grownBy _ (some (w.heap.size + 1)) := only_setCell w2 ⟨w.heap.size + 1, 1, none⟩ (.slice A2_ cs2_.length c2_)
        have hB : Box _ _ #[.int .i64 (tOpen (l.take i)), .slice A2_ cs2_.length c2_] _ := bc2.step 1 (.slice A2_ cs2_.length c2_)
        generalize hX : w2.setCell ⟨w.heap.size + 1, 1, none⟩ (.slice A2_ cs2_.length c2_) = X2 at hg hB ⊢
        clear hX
        have br := br1.other hg (by omega)
        have hown := hown2.box bc2 hg (hown2.ne (by omega))
        have hall := hall2.kept bc2 (by simp [notInt]) hg
        have H0 := below_only H01 hg (by omega) H01.size
        clear hg bc2 br1 hown2 hall2 H01
        go_wp2_with fail
        go_roundw
        case rel => exact ⟨i + 1, _, _, _, by omega, by go_num, by rw [HOP.out]; simpa using hB, br, hown, by rw [HSP.out]; simpa using hall, H0⟩
        case measure => simp [intOf]; omega
    · obtain rfl : i = l.length := by omega
      clear hS
      rw [List.take_length] at bc hall
      go_upto_region 11 with fail
      obtain ⟨y0, y1⟩ := bc.cells2
      obtain ⟨z0, z1⟩ := br.cells2
      have f0 := br.frozen 0
      have f1 := br.frozen 1
      go_wp2_with fail
      clear y0 y1 z0 z1 f0 f1
      have hg := only_store wr (w.heap.size) (.int .i64 (tOpen l)) (.slice A9 css.length c9)
      have hB := br.stored (.int .i64 (tOpen l)) (.slice A9 css.length c9)
      have hX := hown.box br hg (hown.ne (by omega))
      have hY := hall.kept br (by simp [notInt]) hg
      refine bodyPost_ret (ret_tally rfl rfl hB) rfl ?_
      exact ⟨_, rfl, ⟨_, _, _, rfl, _, hX.read, hY⟩, below_only H0 hg (by omega) H0.size⟩
end
end Go.Proofs.YtpgkkkodniiilaaGreatDoor
