/-
  A slice of digits that a call makes and appends to.
-/
import Derived.Test.YtkhfadfjkmhpgaaDoorWords
import Derived.Maps.AppendAt
import Derived.OwnWalk
namespace Go.Proofs.YtkhfadfjkmhpgaaDoor
open Go.RowKit

/-- v is the call's own: nil, or the head of a block from B on. -/
def Grow (w : World) (B : Nat) (v : Value) (ds : List Nat) : Prop := OkD ds ∧ w.ownsRow B 68 1 v ds.length (ds.map dv)

theorem below_drewN {B : Nat} {a w : World} (h : Below B a w) (n : Nat) : Below B a (w.drewN n) := ⟨h.os, h.tape, h.output, h.size, h.block⟩

section
variable {w w' : World} {B : Nat} {v : Value} {ds : List Nat}
theorem Grow.okD (h : Grow w B v ds) : OkD ds := h.1
theorem grow_nil (w : World) (B : Nat) : Grow w B (.slice none 0 0) [] := ⟨okD_nil, by simp, .inl ⟨rfl, rfl⟩⟩
theorem Grow.own (h : Grow w B v ds) (hn : ds ≠ []) : ∃ g cap, v = .slice (some ⟨g, 0, none⟩) ds.length cap ∧ B ≤ g ∧ Own w g ds ∧ ds.length ≤ cap := by
  obtain ⟨_, _, h⟩ := h
  rcases h with ⟨_, h0⟩ | ⟨g, cap, cur, hv, hB, hh, hnc, _, hsz, ht⟩
  · exact absurd (List.eq_nil_of_length_eq_zero h0) hn
  · refine ⟨g, cap, hv, hB, ⟨cur.toList.drop ds.length, ?_⟩, hnc⟩
    rw [Nat.mul_one] at ht
    rw [hh, ← ht, List.take_append_drop]
theorem Grow.raw (h : Grow w B v ds) (hl : ds.length ≤ 1000000000) : Raw w v ds := by
  rcases List.eq_nil_or_concat ds with rfl | ⟨_, _, e⟩
  · obtain ⟨_, _, h⟩ := h
    rcases h with ⟨rfl, _⟩ | ⟨g, cap, cur, rfl, _⟩
    · exact raw_nil _ _
    · exact raw_nil _ _
  · obtain ⟨g, cap, rfl, _, ho, hc⟩ := h.own (by rw [e]; simp)
    exact ho.raw_all h.okD hl _ _ rfl hc
theorem Grow.form (h : Grow w B v ds) : ∃ A cap, v = .slice A ds.length cap := by
  obtain ⟨_, _, h⟩ := h
  rcases h with ⟨rfl, h0⟩ | ⟨g, cap, cur, rfl, _⟩
  · exact ⟨none, 0, by rw [h0]⟩
  · exact ⟨_, _, rfl⟩
theorem Grow.below {B' : Nat} (h : Grow w B v ds) (hb : Below B' w w') (hB : ∀ A n c, v = .slice A n c → ∀ ad, A = some ad → ad.block < B') : Grow w' B v ds := by
  obtain ⟨hd, h1, h2⟩ := h
  refine ⟨hd, h1, ?_⟩
  rcases h2 with h2 | ⟨g, cap, cur, hv, hg, hh, h3⟩
  · exact .inl h2
  · exact .inr ⟨g, cap, cur, hv, hg, (hb.block g (hB _ _ _ hv _ rfl)).trans hh, h3⟩
theorem Grow.lt (h : Grow w B v ds) : ∀ A n c, v = .slice A n c → ∀ ad, A = some ad → ad.block < w.heap.size := by
  rintro A n c rfl ad rfl
  obtain ⟨_, _, h⟩ := h
  rcases h with ⟨h, _⟩ | ⟨g, cap, cur, hv, hg, hh, _⟩
  · injection h with h; cases h
  · injection hv with hv
    injection hv with hv
    subst hv
    show g < _
    rcases Nat.lt_or_ge g w.heap.size with hlt | hge
    · exact hlt
    · rw [Array.getElem?_eq_none hge] at hh; cases hh
/-- Whatever lies above what is there keeps it. -/
theorem Grow.keep (h : Grow w B v ds) (hb : Below w.heap.size w w') : Grow w' B v ds := h.below hb h.lt
theorem Grow.drewN (h : Grow w B v ds) (k : Nat) : Grow (w.drewN k) B v ds := h
theorem Grow.drew (h : Grow w B v ds) : Grow w.drew B v ds := h
end

theorem raw_alloc {w : World} {v : Value} {ds : List Nat} (h : Raw w v ds) (o : Obj) : Raw (w.alloc o) v ds := h.below ((Below.refl _ _).alloc (Nat.le_refl _) o)
theorem grow_alloc {w : World} {B : Nat} {v : Value} {ds : List Nat} (h : Grow w B v ds) (o : Obj) : Grow (w.alloc o) B v ds := h.keep ((Below.refl _ _).alloc (Nat.le_refl _) o)
theorem grow_empty (w : World) : Grow (w.alloc (.cells #[] 68)) w.heap.size (.slice (some ⟨w.heap.size, 0, none⟩) 0 0) [] :=
  ⟨okD_nil, by simp, .inr ⟨_, 0, #[], rfl, Nat.le_refl _, heap_alloc_new w _, Nat.le_refl _, Nat.zero_le _, rfl, rfl⟩⟩
theorem below_alloc (w : World) (o : Obj) : Below w.heap.size w (w.alloc o) := (Below.refl _ _).alloc (Nat.le_refl _) o

theorem append_two {P : Program} {t t' ty e e' : TypeId} (ht : P.underlying t = some (.slice e)) (ht' : P.underlying t' = some (.slice e')) (A : Option Addr) (k c : Nat) (x : Value) (w : World) :
    (Builtin.append_ #[t, t'] ty #[.slice A k c, x]).run P w = (Builtin.append_ #[t, t] ty #[.slice A k c, x]).run P w := by
  simp [Builtin.append_, run_underlying ht, run_underlying ht']

theorem run_append_digs {t t' ty : TypeId} (ht : Tryd.prog.underlying t = some (.slice 68)) (ht' : Tryd.prog.underlying t' = some (.slice 68)) {w : World} {B : Nat} {v : Value} {ds es : List Nat} {A : Option Addr} {n c : Nat}
    (hv : Grow w B v ds) (hr : Raw w (.slice A n c) es) (hB : B ≤ w.heap.size) (hl : ds.length + es.length ≤ 1000000000) :
    ∃ v' w', (Builtin.append_ #[t, t'] ty #[v, .slice A n c]).run Tryd.prog w = .ok v' w' ∧ Grow w' B v' (ds ++ es) ∧ w.grownBy w' v.ownBlock ∧ Below B w w' := by
  obtain ⟨i, hi, hz, hs, hby⟩ := info_parts Tryd.info_u32
  obtain ⟨hn, _⟩ := hr.cap
  obtain ⟨A0, cap0, hform⟩ := hv.form
  have htwo := append_two (ty := ty) ht ht' A0 ds.length cap0 (.slice A n c) w
  rw [← hform] at htwo
  rw [htwo]
  rcases Nat.eq_zero_or_pos es.length with h0 | h0
  · have he : es = [] := List.eq_nil_of_length_eq_zero h0
    subst he
    have hn0 : n = 0 := by simpa using hn
    subst hn0
    obtain ⟨A', cap, rfl⟩ := hv.form
    have hcap : ds.length ≤ cap := by
      obtain ⟨_, _, h⟩ := hv
      rcases h with ⟨h, h1⟩ | ⟨g, cap', cur, h, _, _, hnc, _⟩
      · omega
      · injection h with _ _ h; omega
    refine ⟨_, w.drewN 0, ?_, by rw [List.append_nil]; exact hv, ⟨rfl, rfl, rfl, Nat.le_refl _, fun _ _ _ => rfl⟩, below_drewN (Below.refl _ _) 0⟩
    rw [World.drewN_zero]
    rcases A with _ | a
    · rcases A' with _ | a'
      · simp [Builtin.append_, run_underlying ht, sizeOf, typeInfo, hi, Builtin.lenOf, Builtin.firstCells, hcap]
      · simp [Builtin.append_, run_underlying ht, sizeOf, typeInfo, hi, Builtin.lenOf, Builtin.firstCells, hcap, storeCells]
    · have hf := run_firstCells_some (P := Tryd.prog) w i.size 0 a 0 c [] (by simp) (by simp)
      rcases A' with _ | a'
      · simp [Builtin.append_, run_underlying ht, sizeOf, typeInfo, hi, Builtin.lenOf, hcap, hf]
      · simp [Builtin.append_, run_underlying ht, sizeOf, typeInfo, hi, Builtin.lenOf, hcap, hf, storeCells]
  · obtain ⟨ad, rfl, hb, _⟩ := hr.at_ h0
    have hnews : ∀ j u, (es.map dv)[j]? = some u → w.cell? (ad.add j) = some u := fun j u hu => by
      rw [List.getElem?_map] at hu
      rcases Nat.lt_or_ge j es.length with hj | hj
      · rw [List.getElem?_eq_getElem hj] at hu
        obtain ⟨ad', e1, _, e3⟩ := hr.at_ hj
        have e2 : ad = ad' := Option.some.inj e1
        rw [e2, e3, ← hu, List.getD_eq_getElem?_getD, List.getElem?_eq_getElem hj]; rfl
      · rw [List.getElem?_eq_none hj] at hu; cases hu
    have hone : ∀ u ∈ es.map dv, u.oneCell' = true := fun u hu => by
      obtain ⟨d, _, rfl⟩ := List.mem_map.1 hu
      rfl
    have h63 : ds.length + n ≤ maxLen := by simp only [maxLen]; omega
    have hbytes : (ds.length + n) * 4 ≤ 140737488355328 := by omega
    obtain ⟨v', w', h1, h2, h3, _⟩ := run_append_own (P := Tryd.prog) w B t ty 68 i (.int .u32 0) 1 4 ht hi hz hs hby rfl (by omega) v ds.length (ds.map dv) hv.2 ad n c (es.map dv) (by simp [hn]) hnews hone h63 hbytes hB
    refine ⟨v', w', h1, ⟨okD_append.2 ⟨hv.okD, hr.okD⟩, by rw [List.length_append, ← hn, List.map_append]; exact h2⟩, h3, (Below.refl B w).grown h3 hB (fun k hk => ?_)⟩
    obtain ⟨_, _, h⟩ := hv
    rcases h with ⟨rfl, _⟩ | ⟨g, cap', cur, rfl, hg, _⟩
    · simp [Value.ownBlock] at hk
    · simp [Value.ownBlock] at hk; omega

theorem wpList_append_digs {ops : Array Oper} {rest : List Oper} {o : Oper} {a : Act} {w : World} {Q : Exit → Act → World → Prop} (hgd : o.guard = none) (s x : Operand) (t t' : TypeId)
    (ho : o.op = .call { callee := .builtin .append, args := #[s, x], argTypes := #[t, t'] })
    (ht : Tryd.prog.underlying t = some (.slice 68)) (ht' : Tryd.prog.underlying t' = some (.slice 68)) (B : Nat) {v : Value} {ds es : List Nat} {A : Option Addr} {n c : Nat}
    (hs : a.eval s = v) (hv : Grow w B v ds) (hx : a.eval x = .slice A n c) (hr : Raw w (.slice A n c) es) (hB : B ≤ w.heap.size) (hl : ds.length + es.length ≤ 1000000000)
    (h : ∀ v' w', Grow w' B v' (ds ++ es) → w.grownBy w' v.ownBlock → Below B w w' → wpList Tryd.prog ops Q rest (a.put o.dst v') w') : wpList Tryd.prog ops Q (o :: rest) a w :=
  wpList_plain hgd fun _ hK => by
    obtain ⟨v', w', hrun, h2, h3, h4⟩ := run_append_digs (ty := o.type) ht ht' hv hr hB hl
    unfold Oper.wp execOp
    simp only [ho, resolve, invoke, builtin, Sem.run_bind, Sem.run_pure, Result.andThen_ok, List.map_toArray, List.map_cons, List.map_nil, hs, hx, hrun]
    exact hK _ _ (h v' w' h2 h3 h4)
end Go.Proofs.YtkhfadfjkmhpgaaDoor
