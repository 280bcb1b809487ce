/-
  SpA, SpB, SpC, SpD, SpF, SpO, SpO2 in one text.
-/
import Derived.Test.YthmmnmajkeoaaabGreatDoorOPtT
import Derived.Test.YthmmnmajkeoaaabGreatDoorOSpM
import Derived.IntWalk
import Derived.Deep.Cut
import Derived.Deep.CutBlock
import Derived.Deep.Upon
namespace Go.Proofs.YthmmnmajkeoaaabGreatDoor
open Go.RowKit

section
variable {α β : Type} {R S : α → β → Prop} {a : α} {b : β} {l : List α} {m : List β}
end

section
variable {w w' : World} {B B' : Nat} {e t : TypeId} {k : Nat} {v : Value} {css : List (List Value)}
/-- All cells of the block in which v begins are no digits. -/
def CleanB (w : World) (v : Value) : Prop := ∀ g, v.ownBlock = some g → ∃ cur e, Box w g cur e ∧ cur.all notInt = true
/-- v is a slice of the call's own, in a block from B on; its rows, of k cells each, are css. -/
def OwnE (w : World) (B : Nat) (e : TypeId) (k : Nat) (v : Value) (css : List (List Value)) : Prop :=
  (∀ cs ∈ css, cs.length = k) ∧ w.ownsRow B e k v css.length css.flatten ∧ CleanB w v
/-- What the program says of a slice type t with elements of type e. -/
def ElemT (t e : TypeId) (k : Nat) : Prop := Tryz.prog.underlying t = some (.slice e) ∧ 0 < k ∧ ∃ i z, Tryz.prog.info? e = some i ∧ i.zero = some z ∧ i.size = k ∧ i.bytes ≤ 200 ∧ z.cells.size = k ∧ z.cells.all notInt = true
theorem elemT (ht : Tryz.prog.underlying t = some (.slice e)) (hk : 0 < k) (h : ((Tryz.prog.info? e).any fun i => i.size == k && decide (i.bytes ≤ 200) && match i.zero with | some z => z.cells.size == k && z.cells.all notInt | none => false) = true) : ElemT t e k := by
  cases hi : Tryz.prog.info? e with
  | none => rw [hi] at h; cases h
  | some i =>
    rw [hi] at h
    simp only [Option.any_some, Bool.and_eq_true, beq_iff_eq, decide_eq_true_eq] at h
    cases hz : i.zero with
    | none => rw [hz] at h; cases h.2
    | some z =>
      rw [hz] at h
      simp only [Bool.and_eq_true, beq_iff_eq] at h
      exact ⟨ht, hk, i, z, hi, hz, h.1.1, h.1.2, h.2.1, h.2.2⟩
theorem CleanB.kept {r : Option Nat} (h : CleanB w v) (hg : w.grownBy w' r) (hne : v.ownBlock = none ∨ v.ownBlock ≠ r) : CleanB w' v := fun g hgg => by
  obtain ⟨cur, e, h1, h2⟩ := h g hgg
  refine ⟨cur, e, ?_, h2⟩
  refine (hg.block g h1.lt ?_).trans h1
  rcases hne with hne | hne
  · rw [hne] at hgg; cases hgg
  · rw [← hgg]; exact hne
theorem OwnE.nil (w : World) (B : Nat) (e : TypeId) (k : Nat) : OwnE w B e k (.slice none 0 0) [] :=
  ⟨fun cs h => (by cases h), by simpa using World.ownsRow_nil w B e k, fun g hg => (by cases hg)⟩
theorem OwnE.lt (h : OwnE w B e k v css) : ∀ g, v.ownBlock = some g → B ≤ g ∧ g < w.heap.size := h.2.1.lt
theorem OwnE.kept {r : Option Nat} (h : OwnE w B e k v css) (hg : w.grownBy w' r) (hne : v.ownBlock = none ∨ v.ownBlock ≠ r) : OwnE w' B e k v css :=
  ⟨h.1, h.2.1.kept hg hne, h.2.2.kept hg hne⟩
theorem grown_below {X : World} {r : Option Nat} (h : Below w.heap.size w X) : w.grownBy X r := ⟨h.os, h.tape, h.output, h.size, fun k hk _ => h.block k hk⟩
theorem OwnE.below (h : OwnE w B e k v css) (hb : Below w.heap.size w w') : OwnE w' B e k v css := by
  cases hv : v.ownBlock with
  | none => exact h.kept (grown_below (r := none) hb) (.inl hv)
  | some g => exact h.kept (grown_below (r := none) hb) (.inr (by rw [hv]; intro he; cases he))
theorem OwnE.form (h : OwnE w B e k v css) : ∃ A c, v = .slice A css.length c ∧ css.length ≤ c ∧ c ≤ maxLen := by
  rcases h.2.1.2 with ⟨h1, h2⟩ | ⟨g, cap, cur, h1, _, _, h2, h3, _⟩
  · exact ⟨none, 0, by rw [h1, h2], by omega, by decide⟩
  · exact ⟨_, cap, h1, h2, h3⟩
/-- append of one element: the law of the library's, and what the new block holds besides. -/
theorem run_append_row {ty : TypeId} (hT : ElemT t e k) (hv : OwnE w B e k v css) {ad : Addr} {c : Nat} {cs : List Value} (hl : cs.length = k) (hc : ∀ j u, cs[j]? = some u → w.cell? (ad.add j) = some u)
    (h1 : ∀ u ∈ cs, u.oneCell' = true) (h2 : ∀ u ∈ cs, notInt u = true) (hn : css.length ≤ 100000) (hB : B ≤ w.heap.size) :
    ∃ v' w', (Builtin.append_ #[t, t] ty #[v, .slice (some ad) 1 c]).run Tryz.prog w = .ok v' w' ∧ OwnE w' B e k v' (css ++ [cs]) ∧ w.grownBy w' v.ownBlock := by
  obtain ⟨ht, hk, i, z, hi, hz, hs, hby, hzs, hzn⟩ := hT
  have hcl1 : cs.length = 1 * k := by omega
  have hbt : (css.length + 1) * i.bytes ≤ 140737488355328 := by have h := Nat.mul_le_mul (show css.length + 1 ≤ 100001 by omega) hby; omega
  obtain ⟨v', w', hrun, hown, hgr, -⟩ := run_append_own (P := Tryz.prog) w B t ty e i z k i.bytes ht hi hz hs rfl hzs hk v css.length css.flatten hv.2.1 ad 1 c cs hcl1 hc h1 (by unfold maxLen; omega) hbt hB
  refine ⟨v', w', hrun, ⟨fun x hx => ?_, by rw [List.length_append, List.flatten_append]; simpa using hown, ?_⟩, hgr⟩
  · rcases List.mem_append.1 hx with hx | hx
    · exact hv.1 x hx
    · have := List.mem_singleton.1 hx; subst this; exact hl
  -- the new block
  have hcs' : ∀ u ∈ css.flatten, notInt u = true := by
    intro u hu
    rcases hv.2.1.2 with ⟨_, h0⟩ | ⟨g, cap, cur, e1, _, hg, _, _, _, htk⟩
    · rw [List.eq_nil_of_length_eq_zero h0] at hu; cases hu
    · obtain ⟨cur', e', hb, hcl⟩ := hv.2.2 g (by rw [e1]; rfl)
      unfold Box at hb
      rw [hg] at hb
      simp only [Option.some.injEq, Obj.cells.injEq] at hb
      obtain ⟨rfl, _⟩ := hb
      rw [← htk] at hu
      exact Array.all_eq_true_iff_forall_mem.1 hcl u (by rw [← Array.mem_toList_iff]; exact List.mem_of_mem_take hu)
  have hzz : ∀ n, ∀ u ∈ (Builtin.zeroCells z.cells n), notInt u = true := fun n u hu => by
    have hzn' := Array.all_eq_true_iff_forall_mem.1 hzn
    unfold Builtin.zeroCells at hu
    rw [Array.mem_map] at hu
    obtain ⟨j, hj, rfl⟩ := hu
    have hlt : j % z.cells.size < z.cells.size := Nat.mod_lt _ (by omega)
    rw [getElem!_pos z.cells _ hlt]
    exact hzn' _ (Array.getElem_mem hlt)
  have new : ∀ (olds : List Value) (n : Nat), (∀ u ∈ olds, notInt u = true) → (olds.toArray ++ cs.toArray ++ Builtin.zeroCells z.cells n).all notInt = true := fun olds n ho => by
    rw [Array.all_eq_true_iff_forall_mem]
    intro u hu
    rw [Array.mem_append, Array.mem_append, List.mem_toArray, List.mem_toArray] at hu
    rcases hu with (hu | hu) | hu
    · exact ho u hu
    · exact h2 u hu
    · exact hzz n u hu
  intro g' hg'
  subst hs
  have h63 : ((css.length + 1 : Nat) : Int) ≤ 9223372036854775807 := by omega
  rcases hv.2.1.2 with ⟨rfl, h0⟩ | ⟨g, cap, cur, rfl, hbg, hg, hnc, hcm, hcsz, htk⟩
  · have hr := run_append_nil (P := Tryz.prog) (w := w) t ty e i z ht hi hz ad 1 c cs hcl1 hc (by omega) (by omega) (by have := hby; omega)
    rw [hrun] at hr
    injection hr with e1 e2
    subst e1 e2
    injection hg' with hg'
    subst hg'
    refine ⟨_, _, heap_alloc_new w.drew _, ?_⟩
    have := new [] (grownCap w 1 0 e - 1) (fun u hu => by cases hu)
    simpa using this
  · by_cases hroom : css.length + 1 ≤ cap
    · have hfit : css.length * i.size + cs.length ≤ cur.size := by rw [hl, hcsz, ← Nat.succ_mul]; exact Nat.mul_le_mul_right _ hroom
      have hr := run_append_room (P := Tryz.prog) w t ty e i ht hi g css.length cap cur hg ad 1 c cs hcl1 hc h1 hroom hfit
      rw [hrun] at hr
      injection hr with e1 e2
      subst e1 e2
      injection hg' with hg'
      subst hg'
      obtain ⟨cur', e', hb, hcl⟩ := hv.2.2 g rfl
      unfold Box at hb
      rw [hg] at hb
      simp only [Option.some.injEq, Obj.cells.injEq] at hb
      obtain ⟨rfl, _⟩ := hb
      have hall := Array.all_eq_true_iff_forall_mem.1 hcl
      refine ⟨_, _, setRow_heap w g cur _ e _ hg, ?_⟩
      rw [Array.all_eq_true_iff_forall_mem]
      intro u hu
      rw [List.mem_toArray, List.mem_append, List.mem_append] at hu
      rcases hu with (hu | hu) | hu
      · exact hall u (by rw [← Array.mem_toList_iff]; exact List.mem_of_mem_take hu)
      · exact h2 u hu
      · exact hall u (by rw [← Array.mem_toList_iff]; exact List.mem_of_mem_drop hu)
    · have holds : ∀ j u, css.flatten[j]? = some u → w.cell? ((⟨g, 0, none⟩ : Addr).add j) = some u := hv.2.1.cells (g := g) rfl
      have hr := run_append_grow (P := Tryz.prog) (w := w) t ty e i z ht hi hz ⟨g, 0, none⟩ css.length cap css.flatten hv.2.1.1 holds ad 1 c cs hcl1 hc (by omega) (by omega) (growslice_fits (by omega) hbt)
      rw [hrun] at hr
      injection hr with e1 e2
      subst e1 e2
      injection hg' with hg'
      subst hg'
      exact ⟨_, _, heap_alloc_new w.drew _, new _ _ hcs'⟩
/-- A new block with one element. -/
theorem lit_cells (w : World) (cs : List Value) (e : TypeId) : ∀ j u, cs[j]? = some u → (w.alloc (.cells cs.toArray e)).cell? ((⟨w.heap.size, 0, none⟩ : Addr).add j) = some u := fun j u hu => by
  rw [Addr.add_lit, Nat.zero_add, cell_of_row _ w.heap.size j cs.toArray e (0, 0) (heap_alloc_new w _)]
  simpa using hu
theorem wpList_append_row {ops : Array Oper} {rest : List Oper} {o : Oper} {a : Act} {Q : Exit → Act → World → Prop} (hgd : o.guard = none) (s x : Operand) (ho : o.op = .call { callee := .builtin .append, args := #[s, x], argTypes := #[t, t] })
    (hT : ElemT t e k) (B : Nat) (cs : List Value) (hs : a.eval s = v) (hv : OwnE w B e k v css) (hx : a.eval x = .slice (some ⟨w.heap.size, 0, none⟩) 1 1) (hl : cs.length = k) (h1 : cs.all (fun u => u.oneCell' && notInt u) = true) (hn : css.length ≤ 100000) (hB : B ≤ w.heap.size)
    (h : ∀ v' w', OwnE w' B e k v' (css ++ [cs]) → w.grownBy w' v.ownBlock → wpList Tryz.prog ops Q rest (a.put o.dst v') w') : wpList Tryz.prog ops Q (o :: rest) a (w.alloc (.cells cs.toArray e)) :=
  wpList_plain hgd fun _ hK => by
    have hall : ∀ u ∈ cs, u.oneCell' = true ∧ notInt u = true := fun u hu => by
      have := List.all_eq_true.1 h1 u hu
      simpa using this
    have hal : Below w.heap.size w (w.alloc (.cells cs.toArray e)) := (Below.refl _ _).alloc (Nat.le_refl _) _
    obtain ⟨v', w', hrun, h2, h3⟩ := run_append_row (ty := o.type) (c := 1) hT (hv.below hal) (ad := ⟨w.heap.size, 0, none⟩) (cs := cs) hl (lit_cells w cs e) (fun u hu => (hall u hu).1) (fun u hu => (hall u hu).2) hn (by have := hal.size; omega)
    unfold Oper.wp execOp
    simp only [ho, resolve, invoke, builtin, Sem.run_bind, Sem.run_pure, Result.andThen_ok, List.map_toArray, List.map_cons, List.map_nil, hs, hx, hrun]
    refine hK _ _ (h v' w' h2 ?_)
    exact ⟨h3.os.trans hal.os, h3.tape.trans hal.tape, h3.output.trans hal.output, Nat.le_trans hal.size h3.size, fun j hj hne => (h3.block j (by have := hal.size; omega) hne).trans (hal.block j hj)⟩
/-- Nothing below B turns where what may be written lies from B on. -/
theorem OwnE.trod (h : OwnE w B e k v css) (hg : w.grownBy w' v.ownBlock) (hB : B ≤ w.heap.size) : Below B w w' :=
  (Below.refl B w).grown hg hB fun g hgg => (h.lt g hgg).1

/-- Facts that no new block and no write to a block without digits turns. -/
structure Firm (P : World → Prop) : Prop where
  below : ∀ {w w' : World}, P w → Below w.heap.size w w' → P w'
  kept : ∀ {w w' : World} {g : Nat} {cs : Array Value} {t : TypeId}, P w → Box w g cs t → cs.all notInt = true → w.grownBy w' (some g) → P w'
theorem Firm.own {P : World → Prop} (F : Firm P) (h : P w) (hc : CleanB w v) (hg : w.grownBy w' v.ownBlock) : P w' := by
  cases hv : v.ownBlock with
  | none =>
    rw [hv] at hg
    exact F.below h ⟨hg.os, hg.tape, hg.output, hg.size, fun j hj => hg.block j hj (by intro he; cases he)⟩
  | some g =>
    obtain ⟨cur, e, h1, h2⟩ := hc g hv
    rw [hv] at hg
    exact F.kept h h1 h2 hg
theorem Firm.and {P Q : World → Prop} (F : Firm P) (G : Firm Q) : Firm fun w => P w ∧ Q w :=
  ⟨fun h hb => ⟨F.below h.1 hb, G.below h.2 hb⟩, fun h hx hc hg => ⟨F.kept h.1 hx hc hg, G.kept h.2 hx hc hg⟩⟩
theorem firm_nq (s : Bool) (v u : Value) (q : Rat) (L : Nat) : Firm fun w => NQ w s v u q L := ⟨fun h hb => h.below hb, fun h hx hc hg => h.kept hx hc hg⟩
theorem firm_pq (s : Bool) (v u : Value) (q : Rat) (L : Nat) : Firm fun w => PQ w s v u q L := ⟨fun h hb => h.below hb, fun h hx hc hg => h.kept hx hc hg⟩

/-- A slice that is read: its rows, of k cells each. -/
def ReadR (w : World) (k : Nat) (v : Value) (css : List (List Value)) : Prop :=
  (∀ cs ∈ css, cs.length = k) ∧ ∃ A c, v = .slice A css.length c ∧ css.length ≤ c ∧ c ≤ maxLen ∧ (css ≠ [] → ∃ g o, A = some ⟨g, o, none⟩ ∧ ∀ i cs, css[i]? = some cs → ∀ j x, cs[j]? = some x → w.cell? ⟨g, o + (i * k + j), none⟩ = some x)
theorem ReadR.below (h : ReadR w k v css) (hb : Below w.heap.size w w') : ReadR w' k v css := by
  obtain ⟨h1, A, c, h2, h3, h4, h5⟩ := h
  refine ⟨h1, A, c, h2, h3, h4, fun hne => ?_⟩
  obtain ⟨g, o, e1, h6⟩ := h5 hne
  refine ⟨g, o, e1, fun i cs hi j x hx => ?_⟩
  have h7 := h6 i cs hi j x hx
  exact (hb.cell (p := ⟨g, o + (i * k + j), none⟩) (World.block_lt_of_cell? w _ h7)).trans h7
theorem flat_get {css : List (List Value)} (hk : ∀ cs ∈ css, cs.length = k) {i j : Nat} {cs : List Value} {x : Value} (hi : css[i]? = some cs) (hj : cs[j]? = some x) : css.flatten[i * k + j]? = some x := by
  induction css generalizing i with
  | nil => cases hi
  | cons c css ih =>
    have hc := hk c (List.mem_cons_self ..)
    rw [List.flatten_cons]
    cases i with
    | zero =>
      injection hi with hi; subst hi
      have hlt : j < c.length := (List.getElem?_eq_some_iff.1 hj).1
      rw [Nat.zero_mul, Nat.zero_add, List.getElem?_append_left hlt]; exact hj
    | succ i =>
      rw [Nat.succ_mul, List.getElem?_append_right (by omega), show i * k + k + j - c.length = i * k + j by omega]
      exact ih (fun x hx => hk x (List.mem_cons_of_mem _ hx)) hi
theorem OwnE.read (h : OwnE w B e k v css) : ReadR w k v css := by
  rcases h.2.1.2 with ⟨h1, h2⟩ | ⟨g, cap, cur, h1, _, _, h2, h3, _⟩
  · exact ⟨h.1, none, 0, by rw [h1, h2], by omega, by decide, fun hne => absurd (List.eq_nil_of_length_eq_zero h2) hne⟩
  · refine ⟨h.1, _, cap, h1, h2, h3, fun _ => ⟨g, 0, rfl, fun i cs hi j x hx => ?_⟩⟩
    have := h.2.1.cells (g := g) (by rw [h1]; rfl) (i * k + j) x (flat_get h.1 hi hx)
    rwa [Addr.add_lit] at this
end
end Go.Proofs.YthmmnmajkeoaaabGreatDoor
namespace Go.Proofs.YthmmnmajkeoaaabGreatDoor
open Go.RowKit

section
variable {f0 h0 f1 h1 f2 h2 f3 h3 f4 h4 f5 h5 f6 h6 f7 h7 f8 h8 f9 h9 f10 h10 f11 h11 : Bool} {A0 A1 A2 A3 A4 A5 A6 A7 A8 A9 A10 A11 A12 A13 A14 A15 A16 A17 A18 A19 A20 A21 A22 A23 D0 D1 D2 D3 D4 D5 D6 D7 D8 D9 D10 D11 D12 D13 D14 D15 D16 D17 D18 D19 D20 D21 D22 D23 : Option Addr} {n0 n1 n2 n3 n4 n5 n6 n7 n8 n9 n10 n11 n12 n13 n14 n15 n16 n17 n18 n19 n20 n21 n22 n23 c0 c1 c2 c3 c4 c5 c6 c7 c8 c9 c10 c11 c12 c13 c14 c15 c16 c17 c18 c19 c20 c21 c22 c23 m0 m1 m2 m3 m4 m5 m6 m7 m8 m9 m10 m11 m12 m13 m14 m15 m16 m17 m18 m19 m20 m21 m22 m23 e0 e1 e2 e3 e4 e5 e6 e7 e8 e9 e10 e11 e12 e13 e14 e15 e16 e17 e18 e19 e20 e21 e22 e23 : Nat} {s0 s1 s2 s3 s4 s5 s6 s7 s8 s9 s10 s11 s12 s13 s14 s15 s16 s17 s18 s19 s20 s21 s22 s23 : Bool} {q0 q1 q2 q3 q4 q5 q6 q7 : Rat} {z0 z1 z2 z3 z4 z5 z6 z7 z8 z9 z10 z11 : Int} {L L0 L1 x y : Nat} {k : Int} {b : Bool} {w : World}
variable {o0 o1 o2 o3 : Option Rat} {l l' : List Sp}
/-- An end of a span of the program: a number in normal form, or the zero value where there is none. -/
def EndV (w : World) (L : Nat) (s : Bool) (v u : Value) (no : Bool) (o : Option Rat) : Prop :=
  (no = false ∧ ∃ q, o = some q ∧ NQ w s v u q L) ∨ (no = true ∧ o = none ∧ s = false ∧ Raw w v [] ∧ Raw w u [])
/-- The cells of a span of the program. -/
def SpE (w : World) (L : Nat) (cs : List Value) (s : Sp) : Prop := ∃ (s0 : Bool), ∃ (A0 : Option Addr), ∃ (n0 : Nat), ∃ (c0 : Nat), ∃ (D0 : Option Addr), ∃ (m0 : Nat), ∃ (e0 : Nat), ∃ (s1 : Bool), ∃ (A1 : Option Addr), ∃ (n1 : Nat), ∃ (c1 : Nat), ∃ (D1 : Option Addr), ∃ (m1 : Nat), ∃ (e1 : Nat), ∃ (f0 : Bool), ∃ (h0 : Bool), cs = [.bool s0, .slice A0 n0 c0, .slice D0 m0 e0, .bool s1, .slice A1 n1 c1, .slice D1 m1 e1, .bool f0, .bool h0] ∧ EndV w L s0 (.slice A0 n0 c0) (.slice D0 m0 e0) f0 s.lo ∧ EndV w L s1 (.slice A1 n1 c1) (.slice D1 m1 e1) h0 s.hi
end
end Go.Proofs.YthmmnmajkeoaaabGreatDoor
namespace Go.Proofs.YthmmnmajkeoaaabGreatDoor
open Go.RowKit

section
variable {f0 h0 f1 h1 f2 h2 f3 h3 f4 h4 f5 h5 f6 h6 f7 h7 f8 h8 f9 h9 f10 h10 f11 h11 : Bool} {A0 A1 A2 A3 A4 A5 A6 A7 A8 A9 A10 A11 A12 A13 A14 A15 A16 A17 A18 A19 A20 A21 A22 A23 D0 D1 D2 D3 D4 D5 D6 D7 D8 D9 D10 D11 D12 D13 D14 D15 D16 D17 D18 D19 D20 D21 D22 D23 : Option Addr} {n0 n1 n2 n3 n4 n5 n6 n7 n8 n9 n10 n11 n12 n13 n14 n15 n16 n17 n18 n19 n20 n21 n22 n23 c0 c1 c2 c3 c4 c5 c6 c7 c8 c9 c10 c11 c12 c13 c14 c15 c16 c17 c18 c19 c20 c21 c22 c23 m0 m1 m2 m3 m4 m5 m6 m7 m8 m9 m10 m11 m12 m13 m14 m15 m16 m17 m18 m19 m20 m21 m22 m23 e0 e1 e2 e3 e4 e5 e6 e7 e8 e9 e10 e11 e12 e13 e14 e15 e16 e17 e18 e19 e20 e21 e22 e23 : Nat} {s0 s1 s2 s3 s4 s5 s6 s7 s8 s9 s10 s11 s12 s13 s14 s15 s16 s17 s18 s19 s20 s21 s22 s23 : Bool} {q0 q1 q2 q3 q4 q5 q6 q7 : Rat} {z0 z1 z2 z3 z4 z5 z6 z7 z8 z9 z10 z11 : Int} {L L0 L1 x y : Nat} {k : Int} {b : Bool} {w : World}
variable {o0 o1 o2 o3 : Option Rat} {l l' : List Sp}
/-- A cell, kept from the walk. -/
def CellF (w : World) (p : Addr) (v : Value) : Prop := w.cell? p = some v
theorem CellF.eq {p : Addr} {v : Value} (h : CellF w p v) : w.cell? p = some v := h
theorem CellF.below {w' : World} {p : Addr} {v : Value} (h : CellF w p v) (hb : Below w.heap.size w w') : CellF w' p v := (hb.cell (World.block_lt_of_cell? w p h)).trans h
end
end Go.Proofs.YthmmnmajkeoaaabGreatDoor
namespace Go.Proofs.YthmmnmajkeoaaabGreatDoor
open Go.RowKit

section
variable {f0 h0 f1 h1 f2 h2 f3 h3 f4 h4 f5 h5 f6 h6 f7 h7 f8 h8 f9 h9 f10 h10 f11 h11 : Bool} {A0 A1 A2 A3 A4 A5 A6 A7 A8 A9 A10 A11 A12 A13 A14 A15 A16 A17 A18 A19 A20 A21 A22 A23 D0 D1 D2 D3 D4 D5 D6 D7 D8 D9 D10 D11 D12 D13 D14 D15 D16 D17 D18 D19 D20 D21 D22 D23 : Option Addr} {n0 n1 n2 n3 n4 n5 n6 n7 n8 n9 n10 n11 n12 n13 n14 n15 n16 n17 n18 n19 n20 n21 n22 n23 c0 c1 c2 c3 c4 c5 c6 c7 c8 c9 c10 c11 c12 c13 c14 c15 c16 c17 c18 c19 c20 c21 c22 c23 m0 m1 m2 m3 m4 m5 m6 m7 m8 m9 m10 m11 m12 m13 m14 m15 m16 m17 m18 m19 m20 m21 m22 m23 e0 e1 e2 e3 e4 e5 e6 e7 e8 e9 e10 e11 e12 e13 e14 e15 e16 e17 e18 e19 e20 e21 e22 e23 : Nat} {s0 s1 s2 s3 s4 s5 s6 s7 s8 s9 s10 s11 s12 s13 s14 s15 s16 s17 s18 s19 s20 s21 s22 s23 : Bool} {q0 q1 q2 q3 q4 q5 q6 q7 : Rat} {z0 z1 z2 z3 z4 z5 z6 z7 z8 z9 z10 z11 : Int} {L L0 L1 x y : Nat} {k : Int} {b : Bool} {w : World}
variable {o0 o1 o2 o3 : Option Rat} {l l' : List Sp}
theorem Box.step {g : Nat} {cs : Array Value} {t : TypeId} (h : Box w g cs t) (j : Nat) (u : Value) : Box (w.setCell ⟨g, j, none⟩ u) g (cs.setIfInBounds j u) t := by
  unfold Box; rw [heap_setCell_same w g j _ _ _ h]
section
variable {w' : World} {B : Nat} {e : TypeId} {k : Nat} {v : Value} {css : List (List Value)} {m : List (Rat × Int)}
theorem OwnE.ne {g : Nat} (h : OwnE w B e k v css) (hg : g < B) : v.ownBlock ≠ some g := fun he => by have := (h.lt g he).1; omega
end
end
end Go.Proofs.YthmmnmajkeoaaabGreatDoor
namespace Go.Proofs.YthmmnmajkeoaaabGreatDoor
open Go.RowKit

section
variable {f0 h0 f1 h1 f2 h2 f3 h3 f4 h4 f5 h5 f6 h6 f7 h7 f8 h8 f9 h9 f10 h10 f11 h11 : Bool} {A0 A1 A2 A3 A4 A5 A6 A7 A8 A9 A10 A11 A12 A13 A14 A15 A16 A17 A18 A19 A20 A21 A22 A23 D0 D1 D2 D3 D4 D5 D6 D7 D8 D9 D10 D11 D12 D13 D14 D15 D16 D17 D18 D19 D20 D21 D22 D23 : Option Addr} {n0 n1 n2 n3 n4 n5 n6 n7 n8 n9 n10 n11 n12 n13 n14 n15 n16 n17 n18 n19 n20 n21 n22 n23 c0 c1 c2 c3 c4 c5 c6 c7 c8 c9 c10 c11 c12 c13 c14 c15 c16 c17 c18 c19 c20 c21 c22 c23 m0 m1 m2 m3 m4 m5 m6 m7 m8 m9 m10 m11 m12 m13 m14 m15 m16 m17 m18 m19 m20 m21 m22 m23 e0 e1 e2 e3 e4 e5 e6 e7 e8 e9 e10 e11 e12 e13 e14 e15 e16 e17 e18 e19 e20 e21 e22 e23 : Nat} {s0 s1 s2 s3 s4 s5 s6 s7 s8 s9 s10 s11 s12 s13 s14 s15 s16 s17 s18 s19 s20 s21 s22 s23 : Bool} {q0 q1 q2 q3 q4 q5 q6 q7 : Rat} {z0 z1 z2 z3 z4 z5 z6 z7 z8 z9 z10 z11 : Int} {L L0 L1 x y : Nat} {k : Int} {b : Bool} {w : World}
variable {o0 o1 o2 o3 : Option Rat} {l l' : List Sp}
section
variable {w' w2 : World} {a b B : Nat}
end
theorem Box.stored1 {g : Nat} {a : Value} {t : TypeId} (h : Box w g #[a] t) (u : Value) : Box (w.setCell ⟨g, 0, none⟩ u) g #[u] t := by
  have h9 := h.step 0 u
  simpa using h9
end
end Go.Proofs.YthmmnmajkeoaaabGreatDoor
namespace Go.Proofs.YthmmnmajkeoaaabGreatDoor
open Go.RowKit

section
variable {w w' : World} {B : Nat} {e t : TypeId} {k : Nat} {v u : Value} {css css' : List (List Value)} {A A' : Option Addr} {n c n' c' : Nat}
theorem flat_inv (hk : ∀ cs ∈ css, cs.length = k) : ∀ {j : Nat} {u : Value}, css.flatten[j]? = some u → ∃ i j' cs, j = i * k + j' ∧ css[i]? = some cs ∧ cs[j']? = some u := by
  induction css with
  | nil => intro j u h; cases h
  | cons a css ih =>
    intro j u h
    have ha := hk a (List.mem_cons_self ..)
    rw [List.flatten_cons] at h
    by_cases hj : j < a.length
    · rw [List.getElem?_append_left hj] at h
      exact ⟨0, j, a, by omega, rfl, h⟩
    · rw [List.getElem?_append_right (by omega)] at h
      obtain ⟨i, j', cs, e1, e2, e3⟩ := ih (fun x hx => hk x (List.mem_cons_of_mem _ hx)) h
      exact ⟨i + 1, j', cs, by rw [Nat.succ_mul]; omega, e2, e3⟩
theorem flat_len (hk : ∀ cs ∈ css, cs.length = k) : css.flatten.length = css.length * k := by
  induction css with
  | nil => simp
  | cons a css ih => rw [List.flatten_cons, List.length_append, ih fun x hx => hk x (List.mem_cons_of_mem _ hx), hk a (List.mem_cons_self ..), List.length_cons, Nat.succ_mul]; omega
theorem ReadR.flat (h : ReadR w k (.slice A n c) css) : n = css.length ∧ n ≤ c ∧ css.flatten.length = n * k ∧ (A = none → css = []) ∧ ∀ a, A = some a → ∀ j u, css.flatten[j]? = some u → w.cell? (a.add j) = some u := by
  obtain ⟨h1, A', c', h2, h3, h4, h5⟩ := h
  injection h2 with e1 e2 e3
  subst e1 e2 e3
  refine ⟨rfl, h3, flat_len h1, fun hn => ?_, fun a ha j u hu => ?_⟩
  · refine Classical.byContradiction fun hne => ?_
    obtain ⟨g, o, e1, _⟩ := h5 hne
    rw [hn] at e1; cases e1
  · have hne : css ≠ [] := fun h0 => by subst h0; cases hu
    obtain ⟨g, o, e1, h6⟩ := h5 hne
    rw [ha] at e1
    injection e1 with e1
    subst e1
    obtain ⟨i, j', cs, e2, e3, e4⟩ := flat_inv h1 hu
    rw [Addr.add_lit, e2]
    exact h6 i cs e3 j' u e4
theorem ReadR.src (hT : ElemT t e k) (h : ReadR w k (.slice A n c) css) (hone : ∀ cs ∈ css, ∀ u ∈ cs, u.oneCell' = true) : Src Tryz.prog k t (.slice A n c) n css.flatten w := by
  obtain ⟨h1, h2, h3, h4, h5⟩ := h.flat
  cases A with
  | none =>
    have h0 := h4 rfl
    subst h0
    subst h1
    exact Src.ofNil w hT.1 c
  | some a =>
    refine Src.ofSlice w hT.1 a n c css.flatten h3 (h5 a rfl) fun u hu => ?_
    obtain ⟨cs, h6, h7⟩ := List.mem_flatten.1 hu
    exact hone cs h6 u h7
theorem ReadR.shape (h : ReadR w k v css) : ∃ A c, v = .slice A css.length c ∧ css.length ≤ c ∧ c ≤ maxLen := by
  obtain ⟨_, A, c, h2, h3, h4, _⟩ := h
  exact ⟨A, c, h2, h3, h4⟩
theorem ReadR.hold (h : ReadR w k (.slice A n c) css) : (Builtin.firstCells k n (.slice A n c)).run Tryz.prog w = .ok css.flatten.toArray w := by
  obtain ⟨h1, h2, h3, h4, h5⟩ := h.flat
  cases A with
  | none =>
    have h0 := h4 rfl
    subst h0
    subst h1
    exact run_firstCells_none w k 0 0 c
  | some a => exact run_firstCells_some w k n a n c css.flatten h3 (h5 a rfl)
/-- append where there is no room, or nothing: what it makes is read. -/
theorem run_append_read {ty : TypeId} (hT : ElemT t e k) (h : ReadR w k (.slice A n c) css) (h' : ReadR w k u css') (hone : ∀ cs ∈ css', ∀ u ∈ cs, u.oneCell' = true) (hg : css' = [] ∨ c < n + css'.length) (hn : n + css'.length ≤ 200000) :
    ∃ v' w', (Builtin.append_ #[t, t] ty #[.slice A n c, u]).run Tryz.prog w = .ok v' w' ∧ ReadR w' k v' (css ++ css') ∧ Below w.heap.size w w' := by
  obtain ⟨A', c', rfl, hc1, hc2⟩ := h'.shape
  have hs := h'.src hT hone
  obtain ⟨h1, h2, h3, h4, h5⟩ := h.flat
  obtain ⟨ht, hk, i, z, hi, hz, hsz, hby, hzs, hzn⟩ := hT
  subst hsz
  rcases hg with rfl | hg
  · have := run_append_nothing (P := Tryz.prog) w t t ty e i ht hi A n c h2 _ hs
    exact ⟨_, _, this, by simpa using h, Below.refl _ _⟩
  · have hbt : (n + css'.length) * i.bytes ≤ 140737488355328 := by have h := Nat.mul_le_mul hn hby; omega
    have h63 : ((n + css'.length : Nat) : Int) ≤ 9223372036854775807 := by omega
    have hr := run_append_grow_src (P := Tryz.prog) w t t ty e i z ht hi hz A n c css.flatten (by have hw : ReadR w.drew i.size (.slice A n c) css := h.below ((Below.refl _ _).drew); exact hw.hold) _ css'.length css'.flatten hs hg h63 (growslice_fits hg hbt)
    have hge := grownCap_ge w (n + css'.length) c e
    have hcm := grownCap_le_maxLen w (n + css'.length) c e (by unfold maxLen; omega)
    refine ⟨_, _, hr, ⟨fun cs hm => ?_, _, _, by rw [List.length_append, ← h1], by rw [List.length_append, ← h1]; exact hge, hcm, fun _ => ⟨_, 0, rfl, fun i' cs hi' j x hx => ?_⟩⟩, ((Below.refl _ _).drew).alloc (Nat.le_refl _) _⟩
    · rcases List.mem_append.1 hm with hm | hm
      · exact h.1 cs hm
      · exact h'.1 cs hm
    · have hall : ∀ cs ∈ css ++ css', cs.length = i.size := fun cs hm => by
        rcases List.mem_append.1 hm with hm | hm
        · exact h.1 cs hm
        · exact h'.1 cs hm
      have hf := flat_get hall hi' hx
      rw [List.flatten_append] at hf
      have e1 := World.cell?_alloc_new w.drew ((css.flatten ++ css'.flatten).toArray ++ Builtin.zeroCells z.cells (grownCap w (n + css'.length) c e - (n + css'.length))) e (i' * i.size + j)
      rw [Nat.zero_add]
      refine Eq.trans e1 ?_
      have hlt := (List.getElem?_eq_some_iff.1 hf).1
      rw [Array.getElem?_append_left (by simpa using hlt), List.getElem?_toArray]
      exact hf
/-- append of several elements to a slice of the call's own. -/
theorem run_append_rows {ty : TypeId} (hT : ElemT t e k) (hv : OwnE w B e k v css) (h' : ReadR w k u css') (hall : ∀ cs ∈ css', ∀ u ∈ cs, u.oneCell' = true ∧ notInt u = true) (hn : css.length + css'.length ≤ 200000) (hB : B ≤ w.heap.size) :
    ∃ v' w', (Builtin.append_ #[t, t] ty #[v, u]).run Tryz.prog w = .ok v' w' ∧ OwnE w' B e k v' (css ++ css') ∧ w.grownBy w' v.ownBlock := by
  obtain ⟨A', c', rfl, hc1, hc2⟩ := h'.shape
  have hs := h'.src hT (fun cs h u hu => (hall cs h u hu).1)
  obtain ⟨f1, f2, f3, f4, f5⟩ := h'.flat
  obtain ⟨ht, hk, i, z, hi, hz, hsz, hby, hzs, hzn⟩ := hT
  by_cases h0 : css' = []
  · subst h0
    obtain ⟨A, c, rfl, q1, q2⟩ := hv.form
    subst hsz
    exact ⟨_, _, run_append_nothing (P := Tryz.prog) w t t ty e i ht hi A _ c q1 _ hs, by simpa using hv, ⟨rfl, rfl, rfl, Nat.le_refl _, fun _ _ _ => rfl⟩⟩
  cases A' with
  | none => exact absurd (f4 rfl) h0
  | some ad =>
  have hpos : 0 < css'.length := List.length_pos_iff.2 h0
  have h1 : ∀ u ∈ css'.flatten, u.oneCell' = true := fun u hu => by
    obtain ⟨cs, a1, a2⟩ := List.mem_flatten.1 hu; exact (hall cs a1 u a2).1
  have h2 : ∀ u ∈ css'.flatten, notInt u = true := fun u hu => by
    obtain ⟨cs, a1, a2⟩ := List.mem_flatten.1 hu; exact (hall cs a1 u a2).2
  have hbt : (css.length + css'.length) * i.bytes ≤ 140737488355328 := by have h := Nat.mul_le_mul hn hby; omega
  obtain ⟨v', w', hrun, hown, hgr, -⟩ := run_append_own (P := Tryz.prog) w B t ty e i z k i.bytes ht hi hz hsz rfl hzs hk v css.length css.flatten hv.2.1 ad css'.length c' css'.flatten f3 (f5 ad rfl) h1 (by unfold maxLen; omega) hbt hB
  refine ⟨v', w', hrun, ⟨fun x hx => ?_, by rw [List.length_append, List.flatten_append]; exact hown, ?_⟩, hgr⟩
  · rcases List.mem_append.1 hx with hx | hx
    · exact hv.1 x hx
    · exact h'.1 x hx
  have hcs' : ∀ u ∈ css.flatten, notInt u = true := by
    intro u hu
    rcases hv.2.1.2 with ⟨_, h0⟩ | ⟨g, cap, cur, e1, _, hg, _, _, _, htk⟩
    · rw [List.eq_nil_of_length_eq_zero h0] at hu; cases hu
    · obtain ⟨cur', e', hb, hcl⟩ := hv.2.2 g (by rw [e1]; rfl)
      unfold Box at hb
      rw [hg] at hb
      simp only [Option.some.injEq, Obj.cells.injEq] at hb
      obtain ⟨rfl, _⟩ := hb
      rw [← htk] at hu
      exact Array.all_eq_true_iff_forall_mem.1 hcl u (by rw [← Array.mem_toList_iff]; exact List.mem_of_mem_take hu)
  have hzz : ∀ n, ∀ u ∈ (Builtin.zeroCells z.cells n), notInt u = true := fun n u hu => by
    have hzn' := Array.all_eq_true_iff_forall_mem.1 hzn
    unfold Builtin.zeroCells at hu
    rw [Array.mem_map] at hu
    obtain ⟨j, hj, rfl⟩ := hu
    have hlt : j % z.cells.size < z.cells.size := Nat.mod_lt _ (by omega)
    rw [getElem!_pos z.cells _ hlt]
    exact hzn' _ (Array.getElem_mem hlt)
  have new : ∀ (olds : List Value) (n : Nat), (∀ u ∈ olds, notInt u = true) → (olds.toArray ++ css'.flatten.toArray ++ Builtin.zeroCells z.cells n).all notInt = true := fun olds n ho => by
    rw [Array.all_eq_true_iff_forall_mem]
    intro u hu
    rw [Array.mem_append, Array.mem_append, List.mem_toArray, List.mem_toArray] at hu
    rcases hu with (hu | hu) | hu
    · exact ho u hu
    · exact h2 u hu
    · exact hzz n u hu
  intro g' hg'
  subst hsz
  have h63 : ((css.length + css'.length : Nat) : Int) ≤ 9223372036854775807 := by omega
  rcases hv.2.1.2 with ⟨rfl, h0⟩ | ⟨g, cap, cur, rfl, hbg, hg, hnc, hcm, hcsz, htk⟩
  · have hb0 : css'.length * i.bytes ≤ 281474976710656 := by have := Nat.mul_le_mul (show css'.length ≤ 200000 by omega) hby; omega
    have hr := run_append_nil (P := Tryz.prog) (w := w) t ty e i z ht hi hz ad css'.length c' css'.flatten f3 (f5 ad rfl) hpos (by omega) hb0
    rw [hrun] at hr
    injection hr with e1 e2
    subst e1 e2
    injection hg' with hg'
    subst hg'
    refine ⟨_, _, heap_alloc_new w.drew _, ?_⟩
    have := new [] (grownCap w css'.length 0 e - css'.length) (fun u hu => by cases hu)
    simpa using this
  · by_cases hroom : css.length + css'.length ≤ cap
    · have hfit : css.length * i.size + css'.flatten.length ≤ cur.size := by rw [f3, hcsz, ← Nat.add_mul]; exact Nat.mul_le_mul_right _ hroom
      have hr := run_append_room (P := Tryz.prog) w t ty e i ht hi g css.length cap cur hg ad css'.length c' css'.flatten f3 (f5 ad rfl) h1 hroom hfit
      rw [hrun] at hr
      injection hr with e1 e2
      subst e1 e2
      injection hg' with hg'
      subst hg'
      obtain ⟨cur', e', hb, hcl⟩ := hv.2.2 g rfl
      unfold Box at hb
      rw [hg] at hb
      simp only [Option.some.injEq, Obj.cells.injEq] at hb
      obtain ⟨rfl, _⟩ := hb
      have hall := Array.all_eq_true_iff_forall_mem.1 hcl
      refine ⟨_, _, setRow_heap w g cur _ e _ hg, ?_⟩
      rw [Array.all_eq_true_iff_forall_mem]
      intro u hu
      rw [List.mem_toArray, List.mem_append, List.mem_append] at hu
      rcases hu with (hu | hu) | hu
      · exact hall u (by rw [← Array.mem_toList_iff]; exact List.mem_of_mem_take hu)
      · exact h2 u hu
      · exact hall u (by rw [← Array.mem_toList_iff]; exact List.mem_of_mem_drop hu)
    · have holds : ∀ j u, css.flatten[j]? = some u → w.cell? ((⟨g, 0, none⟩ : Addr).add j) = some u := hv.2.1.cells (g := g) rfl
      have hr := run_append_grow (P := Tryz.prog) (w := w) t ty e i z ht hi hz ⟨g, 0, none⟩ css.length cap css.flatten hv.2.1.1 holds ad css'.length c' css'.flatten f3 (f5 ad rfl) (by omega) (by omega) (growslice_fits (by omega) hbt)
      rw [hrun] at hr
      injection hr with e1 e2
      subst e1 e2
      injection hg' with hg'
      subst hg'
      exact ⟨_, _, heap_alloc_new w.drew _, new _ _ hcs'⟩
theorem wpList_append_rows {ops : Array Oper} {rest : List Oper} {o : Oper} {a : Act} {Q : Exit → Act → World → Prop} (hgd : o.guard = none) (s x : Operand) (ho : o.op = .call { callee := .builtin .append, args := #[s, x], argTypes := #[t, t] })
    (hT : ElemT t e k) (B : Nat) (hs : a.eval s = v) (hv : OwnE w B e k v css) (hx : a.eval x = u) (h' : ReadR w k u css') (hall : ∀ cs ∈ css', ∀ u ∈ cs, u.oneCell' = true ∧ notInt u = true) (hn : css.length + css'.length ≤ 200000) (hB : B ≤ w.heap.size)
    (hh : ∀ v' w', OwnE w' B e k v' (css ++ css') → w.grownBy w' v.ownBlock → wpList Tryz.prog ops Q rest (a.put o.dst v') w') : wpList Tryz.prog ops Q (o :: rest) a w :=
  wpList_plain hgd fun _ hK => by
    obtain ⟨v', w', hrun, h2, h3⟩ := run_append_rows (ty := o.type) hT hv h' hall hn hB
    unfold Oper.wp execOp
    simp only [ho, resolve, invoke, builtin, Sem.run_bind, Sem.run_pure, Result.andThen_ok, List.map_toArray, List.map_cons, List.map_nil, hs, hx, hrun]
    exact hK _ _ (hh v' w' h2 h3)
/-- An empty slice with a block of its own. -/
theorem OwnE.empty (w : World) (hB : B ≤ w.heap.size) : OwnE (w.alloc (.cells #[] e)) B e k (.slice (some ⟨w.heap.size, 0, none⟩) 0 0) [] :=
  ⟨fun cs h => (by cases h), by simpa using World.ownsRow_made (base := B) (e := e) (size := k) w #[] 0 hB (by decide) (by simp), fun g hg => by injection hg with hg; subst hg; exact ⟨_, _, heap_alloc_new w _, by simp⟩⟩
/-- Parts of a slice. -/
theorem ReadR.part (h : ReadR w k (.slice A n c) css) {i j : Nat} (hij : i ≤ j) (hj : j ≤ n) {m : Nat} (hm : j ≤ m) (hm2 : m ≤ c) : ReadR w k (.slice (A.map fun a => a.add (i * k)) (j - i) (m - i)) ((css.take j).drop i) := by
  obtain ⟨h1, A', c', h2, h3, h4, h5⟩ := h
  injection h2 with e1 e2 e3
  subst e1 e2 e3
  have hl : ((css.take j).drop i).length = j - i := by rw [List.length_drop, List.length_take]; omega
  refine ⟨fun cs hcs => h1 cs (List.mem_of_mem_take (List.mem_of_mem_drop hcs)), _, _, by rw [hl], by rw [hl]; omega, by omega, fun hne => ?_⟩
  obtain ⟨g, o, e1, h6⟩ := h5 (fun h0 => hne (by rw [h0]; simp))
  subst e1
  refine ⟨g, o + i * k, by simp [Addr.add_lit], fun i' cs hi' j' x hx => ?_⟩
  rw [List.getElem?_drop, List.getElem?_take] at hi'
  split at hi'
  · have := h6 (i + i') cs hi' j' x hx
    rw [show o + i * k + (i' * k + j') = o + ((i + i') * k + j') by rw [Nat.add_mul]; omega]
    exact this
  · cases hi'
end

section
variable {w w' : World} {L : Nat} {v : Value} {qs : List Rat}
end
end Go.Proofs.YthmmnmajkeoaaabGreatDoor
namespace Go.Proofs.YthmmnmajkeoaaabGreatDoor
open Go.RowKit

section
variable {f0 h0 f1 h1 f2 h2 f3 h3 f4 h4 f5 h5 f6 h6 f7 h7 f8 h8 f9 h9 f10 h10 f11 h11 : Bool} {A0 A1 A2 A3 A4 A5 A6 A7 A8 A9 A10 A11 A12 A13 A14 A15 A16 A17 A18 A19 A20 A21 A22 A23 D0 D1 D2 D3 D4 D5 D6 D7 D8 D9 D10 D11 D12 D13 D14 D15 D16 D17 D18 D19 D20 D21 D22 D23 : Option Addr} {n0 n1 n2 n3 n4 n5 n6 n7 n8 n9 n10 n11 n12 n13 n14 n15 n16 n17 n18 n19 n20 n21 n22 n23 c0 c1 c2 c3 c4 c5 c6 c7 c8 c9 c10 c11 c12 c13 c14 c15 c16 c17 c18 c19 c20 c21 c22 c23 m0 m1 m2 m3 m4 m5 m6 m7 m8 m9 m10 m11 m12 m13 m14 m15 m16 m17 m18 m19 m20 m21 m22 m23 e0 e1 e2 e3 e4 e5 e6 e7 e8 e9 e10 e11 e12 e13 e14 e15 e16 e17 e18 e19 e20 e21 e22 e23 : Nat} {s0 s1 s2 s3 s4 s5 s6 s7 s8 s9 s10 s11 s12 s13 s14 s15 s16 s17 s18 s19 s20 s21 s22 s23 : Bool} {q0 q1 q2 q3 q4 q5 q6 q7 : Rat} {z0 z1 z2 z3 z4 z5 z6 z7 z8 z9 z10 z11 : Int} {L L0 L1 x y : Nat} {k : Int} {w : World}
variable {o0 o1 o2 o3 : Option Rat} {l l' : List Sp}
section
variable {w' : World} {B : Nat} {e : TypeId} {k : Nat} {v : Value} {css cs0 : List (List Value)} {qs : List Rat} {b : Nat}
end
theorem op_append_rows {e t : TypeId} {k : Nat} {v u : Value} {css css' : List (List Value)} {o : Oper} {a : Act} {K : Act → World → Prop} {Q : Exit → Act → World → Prop} (s x : Operand) (ho : o.op = .call { callee := .builtin .append, args := #[s, x], argTypes := #[t, t] })
    (hT : ElemT t e k) (B : Nat) (hs : a.eval s = v) (hv : OwnE w B e k v css) (hx : a.eval x = u) (h' : ReadR w k u css') (hall : ∀ cs ∈ css', ∀ u ∈ cs, u.oneCell' = true ∧ notInt u = true) (hn : css.length + css'.length ≤ 200000) (hB : B ≤ w.heap.size)
    (hh : ∀ v' w', OwnE w' B e k v' (css ++ css') → w.grownBy w' v.ownBlock → K (a.put o.dst v') w') : Oper.wp Tryz.prog o a w K Q := by
  obtain ⟨v', w', hrun, h2, h3⟩ := run_append_rows (ty := o.type) hT hv h' hall hn hB
  unfold Oper.wp execOp
  simp only [ho, resolve, invoke, builtin, Sem.run_bind, Sem.run_pure, Result.andThen_ok, List.map_toArray, List.map_cons, List.map_nil, hs, hx, hrun]
  exact hh v' w' h2 h3
theorem op_append_read {e t : TypeId} {k n c : Nat} {A : Option Addr} {u : Value} {css css' : List (List Value)} {o : Oper} {a : Act} {K : Act → World → Prop} {Q : Exit → Act → World → Prop} (s x : Operand) (ho : o.op = .call { callee := .builtin .append, args := #[s, x], argTypes := #[t, t] })
    (hT : ElemT t e k) (hs : a.eval s = .slice A n c) (h : ReadR w k (.slice A n c) css) (hx : a.eval x = u) (h' : ReadR w k u css') (hone : ∀ cs ∈ css', ∀ u ∈ cs, u.oneCell' = true) (hg : css' = [] ∨ c < n + css'.length) (hn : n + css'.length ≤ 200000)
    (hh : ∀ v' w', ReadR w' k v' (css ++ css') → Below w.heap.size w w' → K (a.put o.dst v') w') : Oper.wp Tryz.prog o a w K Q := by
  obtain ⟨v', w', hrun, h2, h3⟩ := run_append_read (ty := o.type) hT h h' hone hg hn
  unfold Oper.wp execOp
  simp only [ho, resolve, invoke, builtin, Sem.run_bind, Sem.run_pure, Result.andThen_ok, List.map_toArray, List.map_cons, List.map_nil, hs, hx, hrun]
  exact hh v' w' h2 h3
end
end Go.Proofs.YthmmnmajkeoaaabGreatDoor
