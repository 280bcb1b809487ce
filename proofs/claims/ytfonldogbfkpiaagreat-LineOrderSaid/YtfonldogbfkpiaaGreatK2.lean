/-
  Bytes, Dec, Tape, TapeNat, Format in one text.
-/
import Derived.Test.YtfonldogbfkpiaaGreatK1
import Derived.Laws.IdiomStrings
namespace Go.Proofs.YtfonldogbfkpiaaGreat
open Go.RowKit

/-- Every byte. -/
def OkB (ds : List Nat) : Prop := ∀ d ∈ ds, d < 256
theorem okB_nil : OkB [] := fun _ h => by cases h
theorem okB_cons {d : Nat} {ds : List Nat} : OkB (d :: ds) ↔ d < 256 ∧ OkB ds := by unfold OkB; simp
theorem okB_append {a b : List Nat} : OkB (a ++ b) ↔ OkB a ∧ OkB b := by
  unfold OkB; simp only [List.mem_append]
  exact ⟨fun h => ⟨fun d hd => h d (.inl hd), fun d hd => h d (.inr hd)⟩, fun h d hd => hd.elim (h.1 d) (h.2 d)⟩
theorem okB_take {ds : List Nat} (h : OkB ds) (k : Nat) : OkB (ds.take k) := fun d hd => h d (List.mem_of_mem_take hd)
theorem okB_drop {ds : List Nat} (h : OkB ds) (k : Nat) : OkB (ds.drop k) := fun d hd => h d (List.mem_of_mem_drop hd)
theorem okB_get {ds : List Nat} (h : OkB ds) {i : Nat} (hi : i < ds.length) : ds[i] < 256 := h _ (List.getElem_mem hi)
theorem okB_getD {ds : List Nat} (h : OkB ds) (i : Nat) : ds.getD i 0 < 256 := by
  rcases Nat.lt_or_ge i ds.length with hi | hi
  · rw [List.getD_eq_getElem?_getD, List.getElem?_eq_getElem hi]; exact okB_get h hi
  · rw [List.getD_eq_getElem?_getD, List.getElem?_eq_none hi]; simp
theorem okB_set {ds : List Nat} (h : OkB ds) (i : Nat) {d : Nat} (hd : d < 256) : OkB (ds.set i d) := fun x hx => by
  rcases List.mem_or_eq_of_mem_set hx with hx | rfl
  · exact h x hx
  · exact hd
theorem okB_replicate (n : Nat) {d : Nat} (hd : d < 256) : OkB (List.replicate n d) := fun x hx => by
  rw [List.mem_replicate] at hx; omega

/-- A byte as a value. -/
def bv (d : Nat) : Value := .int .u8 (d : Int)

/-- The slice value v reads as the digits ds (zeros at the end are allowed), in a block that is there. -/
def RawB (w : World) (v : Value) (ds : List Nat) : Prop :=
  OkB ds ∧ ds.length ≤ 1000000000 ∧ ∃ (A : Option Addr) (c : Nat), v = .slice A ds.length c ∧ ds.length ≤ c ∧
    ∀ j, j < ds.length → ∃ ad, A = some ad ∧ ad.block < w.heap.size ∧ w.cell? (ad.add j) = some (.int .u8 (ds.getD j 0 : Nat))

section
variable {w w' : World} {v : Value} {ds : List Nat}
theorem RawB.okB (h : RawB w v ds) : OkB ds := h.1
theorem RawB.len (h : RawB w v ds) : ds.length ≤ 1000000000 := h.2.1
theorem RawB.form (h : RawB w v ds) : ∃ A c, v = .slice A ds.length c ∧ ds.length ≤ c := by
  obtain ⟨_, _, A, c, e, hc, _⟩ := h; exact ⟨A, c, e, hc⟩
theorem RawB.cap {A : Option Addr} {n c : Nat} (h : RawB w (.slice A n c) ds) : n = ds.length ∧ n ≤ c := by
  obtain ⟨_, _, A', c', e, hc, _⟩ := h
  injection e with _ h2 h3
  subst h3; exact ⟨h2, by omega⟩
theorem RawB.at_ {A : Option Addr} {n c : Nat} (h : RawB w (.slice A n c) ds) {j : Nat} (hj : j < ds.length) :
    ∃ ad, A = some ad ∧ ad.block < w.heap.size ∧ w.cell? (ad.add j) = some (.int .u8 (ds.getD j 0 : Nat)) := by
  obtain ⟨_, _, A', c', e, _, hcell⟩ := h
  injection e with h1
  subst h1; exact hcell j hj
theorem RawB.block {A : Option Addr} {n c : Nat} (h : RawB w (.slice A n c) ds) (hl : 0 < ds.length) (ad : Addr) (hA : A = some ad) : ad.block < w.heap.size := by
  obtain ⟨ad', e, hb, _⟩ := h.at_ hl
  rw [e] at hA
  injection hA with hA
  rw [← hA]; exact hb
theorem RawB.keep (h : RawB w v ds) (hs : w.heap.size ≤ w'.heap.size) (hk : ∀ p : Addr, p.block < w.heap.size → w'.cell? p = w.cell? p) : RawB w' v ds := by
  obtain ⟨h1, h2, A, c, e, hc, hcell⟩ := h
  refine ⟨h1, h2, A, c, e, hc, fun j hj => ?_⟩
  obtain ⟨ad, e1, e2, e3⟩ := hcell j hj
  exact ⟨ad, e1, by omega, (hk _ (by rw [addr_add_block]; exact e2)).trans e3⟩
theorem RawB.below (h : RawB w v ds) (hb : Below w.heap.size w w') : RawB w' v ds := h.keep hb.size fun _ hp => hb.cell hp
/-- A store into another block, or a call that changes another block alone, keeps it. -/
theorem RawB.keepBut (h : RawB w v ds) {g : Nat} (hg : w.grownBy w' (some g)) (hne : 0 < ds.length → ∀ A n c, v = .slice A n c → ∀ ad, A = some ad → ad.block ≠ g) : RawB w' v ds := by
  obtain ⟨h1, h2, A, c, e, hc, hcell⟩ := h
  refine ⟨h1, h2, A, c, e, hc, fun j hj => ?_⟩
  obtain ⟨ad, e1, e2, e3⟩ := hcell j hj
  refine ⟨ad, e1, Nat.lt_of_lt_of_le e2 hg.size, ?_⟩
  refine (World.cell?_of_block (hg.block _ (by rw [addr_add_block]; exact e2) ?_)).trans e3
  rw [addr_add_block]
  intro he
  exact hne (by omega) _ _ _ e ad e1 (by injection he)
theorem RawB.drew (h : RawB w v ds) : RawB w.drew v ds := h
theorem RawB.drewN (h : RawB w v ds) (k : Nat) : RawB (w.drewN k) v ds := h
theorem rawB_nil (A : Option Addr) (c : Nat) : RawB w (.slice A 0 c) [] :=
  ⟨okB_nil, by simp, A, c, rfl, Nat.zero_le _, fun j hj => by simp at hj⟩
end

/-- Block g begins with the digits ds, and may be written. -/
def OwnB (w : World) (g : Nat) (ds : List Nat) : Prop := ∃ extra : List Value, w.heap[g]? = some (.cells (ds.map bv ++ extra).toArray 5 (0, 0))

section
variable {w w' : World} {g : Nat} {ds : List Nat}
theorem OwnB.lt (h : OwnB w g ds) : g < w.heap.size := by
  obtain ⟨ex, h⟩ := h
  rcases Nat.lt_or_ge g w.heap.size with hlt | hge
  · exact hlt
  · rw [Array.getElem?_eq_none hge] at h; cases h
theorem OwnB.cell (h : OwnB w g ds) {j : Nat} (hj : j < ds.length) : w.cell? ⟨g, j, none⟩ = some (.int .u8 (ds.getD j 0 : Nat)) := by
  obtain ⟨ex, h⟩ := h
  rw [cell_of_row w g j _ _ _ h]
  rw [List.getElem?_toArray, List.getElem?_append_left (by simpa using hj)]
  simp [List.getElem?_eq_getElem hj, bv]
theorem OwnB.frozen (h : OwnB w g ds) (j : Nat) : w.frozen? ⟨g, j, none⟩ = false := by
  obtain ⟨ex, h⟩ := h
  exact frozen_of_row w g j _ _ h
theorem OwnB.set (h : OwnB w g ds) (j d : Nat) : OwnB (w.setCell ⟨g, j, none⟩ (.int .u8 (d : Int))) g (ds.set j d) := by
  obtain ⟨ex, h⟩ := h
  have := heap_setCell_same w g j _ _ (.int .u8 (d : Int)) h
  rcases Nat.lt_or_ge j ds.length with hj | hj
  · refine ⟨ex, ?_⟩
    rw [this]
    simp [List.map_set, bv, hj]
  · refine ⟨ex.set (j - ds.length) (.int .u8 (d : Int)), ?_⟩
    rw [this, List.set_eq_of_length_le hj]
    simp [List.set_append, Nat.not_lt.2 hj]
theorem OwnB.block {g' : Nat} (h : OwnB w g ds) (e : w'.heap[g']? = w.heap[g]?) : OwnB w' g' ds := by
  obtain ⟨ex, h⟩ := h; exact ⟨ex, e.trans h⟩
theorem OwnB.far (h : OwnB w g ds) {p : Addr} (hp : g ≠ p.block) (u : Value) : OwnB (w.setCell p u) g ds := h.block (heap_setCell_other w p g u hp)
theorem OwnB.alloc (h : OwnB w g ds) (o : Obj) : OwnB (w.alloc o) g ds := h.block (Below.heap_alloc w o g h.lt)
theorem OwnB.below {B : Nat} (h : OwnB w g ds) (hb : Below B w w') (hg : g < B) : OwnB w' g ds := h.block (hb.block g hg)
theorem OwnB.grown {row : Option Nat} (h : OwnB w g ds) (hb : w.grownBy w' row) (hg : some g ≠ row) : OwnB w' g ds := h.block (hb.block g h.lt hg)
theorem OwnB.drew (h : OwnB w g ds) : OwnB w.drew g ds := h
theorem OwnB.drewN (h : OwnB w g ds) (k : Nat) : OwnB (w.drewN k) g ds := h
theorem OwnB.pre (h : OwnB w g ds) (k : Nat) : OwnB w g (ds.take k) := by
  obtain ⟨ex, h⟩ := h
  refine ⟨(ds.drop k).map bv ++ ex, ?_⟩
  rw [h, ← List.append_assoc, ← List.map_append, List.take_append_drop]
/-- A slice over a part of the block. -/
theorem OwnB.rawB (h : OwnB w g ds) (hd : OkB ds) (hl : ds.length ≤ 1000000000) (o n c : Nat) (hn : o + n ≤ ds.length) (hc : n ≤ c) :
    RawB w (.slice (some ⟨g, o, none⟩) n c) ((ds.drop o).take n) := by
  have hlen : ((ds.drop o).take n).length = n := by rw [List.length_take, List.length_drop]; omega
  refine ⟨okB_take (okB_drop hd o) n, by omega, some ⟨g, o, none⟩, c, by rw [hlen], by omega, fun j hj => ⟨_, rfl, h.lt, ?_⟩⟩
  rw [hlen] at hj
  rw [addr_add_lit, h.cell (by omega), List.getD_eq_getElem?_getD, List.getD_eq_getElem?_getD, List.getElem?_take, if_pos hj, List.getElem?_drop]
theorem OwnB.rawB_all (h : OwnB w g ds) (hd : OkB ds) (hl : ds.length ≤ 1000000000) (n c : Nat) (hn : n = ds.length) (hc : n ≤ c) : RawB w (.slice (some ⟨g, 0, none⟩) n c) ds := by
  have := h.rawB hd hl 0 n c (by omega) hc
  rwa [List.drop_zero, List.take_of_length_le (by omega)] at this
end

theorem Tryz.info_u8 : (Tryz.prog.info? 5).map (fun i => (i.zero, i.size, i.bytes)) = some (some (.int .u8 0), 1, 1) := by kernel_rfl

/-- v is the call's own: nil, or the head of a block from B on. -/
def GrowB (w : World) (B : Nat) (v : Value) (ds : List Nat) : Prop := OkB ds ∧ w.ownsRow B 5 1 v ds.length (ds.map bv)

section
variable {w w' : World} {B : Nat} {v : Value} {ds : List Nat}
theorem GrowB.okB (h : GrowB w B v ds) : OkB ds := h.1
theorem growb_nil (w : World) (B : Nat) : GrowB w B (.slice none 0 0) [] := ⟨okB_nil, by simp, .inl ⟨rfl, rfl⟩⟩
theorem GrowB.own (h : GrowB w B v ds) (hn : ds ≠ []) : ∃ g cap, v = .slice (some ⟨g, 0, none⟩) ds.length cap ∧ B ≤ g ∧ OwnB w g ds ∧ ds.length ≤ cap := by
  obtain ⟨_, _, h⟩ := h
  rcases h with ⟨_, h0⟩ | ⟨g, cap, cur, hv, hB, hh, hnc, _, hsz, ht⟩
  · exact absurd (List.eq_nil_of_length_eq_zero h0) hn
  · refine ⟨g, cap, hv, hB, ⟨cur.toList.drop ds.length, ?_⟩, hnc⟩
    rw [Nat.mul_one] at ht
    rw [hh, ← ht, List.take_append_drop]
theorem GrowB.rawB (h : GrowB w B v ds) (hl : ds.length ≤ 1000000000) : RawB w v ds := by
  rcases List.eq_nil_or_concat ds with rfl | ⟨_, _, e⟩
  · obtain ⟨_, _, h⟩ := h
    rcases h with ⟨rfl, _⟩ | ⟨g, cap, cur, rfl, _⟩
    · exact rawB_nil _ _
    · exact rawB_nil _ _
  · obtain ⟨g, cap, rfl, _, ho, hc⟩ := h.own (by rw [e]; simp)
    exact ho.rawB_all h.okB hl _ _ rfl hc
theorem GrowB.form (h : GrowB w B v ds) : ∃ A cap, v = .slice A ds.length cap := by
  obtain ⟨_, _, h⟩ := h
  rcases h with ⟨rfl, h0⟩ | ⟨g, cap, cur, rfl, _⟩
  · exact ⟨none, 0, by rw [h0]⟩
  · exact ⟨_, _, rfl⟩
theorem GrowB.below {B' : Nat} (h : GrowB w B v ds) (hb : Below B' w w') (hB : ∀ A n c, v = .slice A n c → ∀ ad, A = some ad → ad.block < B') : GrowB w' B v ds := by
  obtain ⟨hd, h1, h2⟩ := h
  refine ⟨hd, h1, ?_⟩
  rcases h2 with h2 | ⟨g, cap, cur, hv, hg, hh, h3⟩
  · exact .inl h2
  · exact .inr ⟨g, cap, cur, hv, hg, (hb.block g (hB _ _ _ hv _ rfl)).trans hh, h3⟩
theorem GrowB.lt (h : GrowB w B v ds) : ∀ A n c, v = .slice A n c → ∀ ad, A = some ad → ad.block < w.heap.size := by
  rintro A n c rfl ad rfl
  obtain ⟨_, _, h⟩ := h
  rcases h with ⟨h, _⟩ | ⟨g, cap, cur, hv, hg, hh, _⟩
  · injection h with h; cases h
  · injection hv with hv
    injection hv with hv
    subst hv
    show g < _
    rcases Nat.lt_or_ge g w.heap.size with hlt | hge
    · exact hlt
    · rw [Array.getElem?_eq_none hge] at hh; cases hh
/-- Whatever lies above what is there keeps it. -/
theorem GrowB.keep (h : GrowB w B v ds) (hb : Below w.heap.size w w') : GrowB w' B v ds := h.below hb h.lt
theorem GrowB.drewN (h : GrowB w B v ds) (k : Nat) : GrowB (w.drewN k) B v ds := h
theorem GrowB.drew (h : GrowB w B v ds) : GrowB w.drew B v ds := h
end

theorem rawB_alloc {w : World} {v : Value} {ds : List Nat} (h : RawB w v ds) (o : Obj) : RawB (w.alloc o) v ds := h.below ((Below.refl _ _).alloc (Nat.le_refl _) o)
theorem growb_alloc {w : World} {B : Nat} {v : Value} {ds : List Nat} (h : GrowB w B v ds) (o : Obj) : GrowB (w.alloc o) B v ds := h.keep ((Below.refl _ _).alloc (Nat.le_refl _) o)
theorem growb_empty (w : World) : GrowB (w.alloc (.cells #[] 5)) w.heap.size (.slice (some ⟨w.heap.size, 0, none⟩) 0 0) [] :=
  ⟨okB_nil, by simp, .inr ⟨_, 0, #[], rfl, Nat.le_refl _, heap_alloc_new w _, Nat.le_refl _, Nat.zero_le _, rfl, rfl⟩⟩
theorem run_append_bytes {t t' ty : TypeId} (ht : Tryz.prog.underlying t = some (.slice 5)) (ht' : Tryz.prog.underlying t' = some (.slice 5)) {w : World} {B : Nat} {v : Value} {ds es : List Nat} {A : Option Addr} {n c : Nat}
    (hv : GrowB w B v ds) (hr : RawB w (.slice A n c) es) (hB : B ≤ w.heap.size) (hl : ds.length + es.length ≤ 1000000000) :
    ∃ v' w', (Builtin.append_ #[t, t'] ty #[v, .slice A n c]).run Tryz.prog w = .ok v' w' ∧ GrowB w' B v' (ds ++ es) ∧ w.grownBy w' v.ownBlock ∧ Below B w w' := by
  obtain ⟨i, hi, hz, hs, hby⟩ := info_parts Tryz.info_u8
  obtain ⟨hn, _⟩ := hr.cap
  obtain ⟨A0, cap0, hform⟩ := hv.form
  have htwo := append_two (ty := ty) ht ht' A0 ds.length cap0 (.slice A n c) w
  rw [← hform] at htwo
  rw [htwo]
  rcases Nat.eq_zero_or_pos es.length with h0 | h0
  · have he : es = [] := List.eq_nil_of_length_eq_zero h0
    subst he
    have hn0 : n = 0 := by simpa using hn
    subst hn0
    obtain ⟨A', cap, rfl⟩ := hv.form
    have hcap : ds.length ≤ cap := by
      obtain ⟨_, _, h⟩ := hv
      rcases h with ⟨h, h1⟩ | ⟨g, cap', cur, h, _, _, hnc, _⟩
      · omega
      · injection h with _ _ h; omega
    refine ⟨_, w.drewN 0, ?_, by rw [List.append_nil]; exact hv, ⟨rfl, rfl, rfl, Nat.le_refl _, fun _ _ _ => rfl⟩, below_drewN (Below.refl _ _) 0⟩
    rw [World.drewN_zero]
    rcases A with _ | a
    · rcases A' with _ | a'
      · simp [Builtin.append_, run_underlying ht, sizeOf, typeInfo, hi, Builtin.lenOf, Builtin.firstCells, hcap]
      · simp [Builtin.append_, run_underlying ht, sizeOf, typeInfo, hi, Builtin.lenOf, Builtin.firstCells, hcap, storeCells]
    · have hf := run_firstCells_some (P := Tryz.prog) w i.size 0 a 0 c [] (by simp) (by simp)
      rcases A' with _ | a'
      · simp [Builtin.append_, run_underlying ht, sizeOf, typeInfo, hi, Builtin.lenOf, hcap, hf]
      · simp [Builtin.append_, run_underlying ht, sizeOf, typeInfo, hi, Builtin.lenOf, hcap, hf, storeCells]
  · obtain ⟨ad, rfl, hb, _⟩ := hr.at_ h0
    have hnews : ∀ j u, (es.map bv)[j]? = some u → w.cell? (ad.add j) = some u := fun j u hu => by
      rw [List.getElem?_map] at hu
      rcases Nat.lt_or_ge j es.length with hj | hj
      · rw [List.getElem?_eq_getElem hj] at hu
        obtain ⟨ad', e1, _, e3⟩ := hr.at_ hj
        have e2 : ad = ad' := Option.some.inj e1
        rw [e2, e3, ← hu, List.getD_eq_getElem?_getD, List.getElem?_eq_getElem hj]; rfl
      · rw [List.getElem?_eq_none hj] at hu; cases hu
    have hone : ∀ u ∈ es.map bv, u.oneCell' = true := fun u hu => by
      obtain ⟨d, _, rfl⟩ := List.mem_map.1 hu
      rfl
    have h63 : ds.length + n ≤ maxLen := by simp only [maxLen]; omega
    have hbytes : (ds.length + n) * 1 ≤ 140737488355328 := by omega
    obtain ⟨v', w', h1, h2, h3, _⟩ := run_append_own (P := Tryz.prog) w B t ty 5 i (.int .u8 0) 1 1 ht hi hz hs hby rfl (by omega) v ds.length (ds.map bv) hv.2 ad n c (es.map bv) (by simp [hn]) hnews hone h63 hbytes hB
    refine ⟨v', w', h1, ⟨okB_append.2 ⟨hv.okB, hr.okB⟩, by rw [List.length_append, ← hn, List.map_append]; exact h2⟩, h3, (Below.refl B w).grown h3 hB (fun k hk => ?_)⟩
    obtain ⟨_, _, h⟩ := hv
    rcases h with ⟨rfl, _⟩ | ⟨g, cap', cur, rfl, hg, _⟩
    · simp [Value.ownBlock] at hk
    · simp [Value.ownBlock] at hk; omega

theorem wpList_append_bytes {ops : Array Oper} {rest : List Oper} {o : Oper} {a : Act} {w : World} {Q : Exit → Act → World → Prop} (hgd : o.guard = none) (s x : Operand) (t t' : TypeId)
    (ho : o.op = .call { callee := .builtin .append, args := #[s, x], argTypes := #[t, t'] })
    (ht : Tryz.prog.underlying t = some (.slice 5)) (ht' : Tryz.prog.underlying t' = some (.slice 5)) (B : Nat) {v : Value} {ds es : List Nat} {A : Option Addr} {n c : Nat}
    (hs : a.eval s = v) (hv : GrowB w B v ds) (hx : a.eval x = .slice A n c) (hr : RawB w (.slice A n c) es) (hB : B ≤ w.heap.size) (hl : ds.length + es.length ≤ 1000000000)
    (h : ∀ v' w', GrowB w' B v' (ds ++ es) → w.grownBy w' v.ownBlock → Below B w w' → wpList Tryz.prog ops Q rest (a.put o.dst v') w') : wpList Tryz.prog ops Q (o :: rest) a w :=
  wpList_plain hgd fun _ hK => by
    obtain ⟨v', w', hrun, h2, h3, h4⟩ := run_append_bytes (ty := o.type) ht ht' hv hr hB hl
    unfold Oper.wp execOp
    simp only [ho, resolve, invoke, builtin, Sem.run_bind, Sem.run_pure, Result.andThen_ok, List.map_toArray, List.map_cons, List.map_nil, hs, hx, hrun]
    exact hK _ _ (h v' w' h2 h3 h4)

end Go.Proofs.YtfonldogbfkpiaaGreat
namespace Go.Proofs.YtfonldogbfkpiaaGreat

/-- The decimal digits of a number, as bytes; none for 0. -/
def decs (x : Nat) : List Nat := if x = 0 then [] else decs (x / 10) ++ [48 + x % 10]
termination_by x
decreasing_by omega
theorem decs_zero : decs 0 = [] := by rw [decs]; simp
theorem decs_pos {x : Nat} (h : 0 < x) : decs x = decs (x / 10) ++ [48 + x % 10] := by rw [decs, if_neg (by omega)]
/-- k decimal digits. -/
def pad : Nat → Nat → List Nat
  | 0, _ => []
  | k + 1, g => pad k (g / 10) ++ [48 + g % 10]
theorem pad_length (k g : Nat) : (pad k g).length = k := by
  induction k generalizing g with
  | zero => rfl
  | succ k ih => rw [pad, List.length_append, ih]; rfl
theorem decs_split (k : Nat) : ∀ (g q : Nat), g < 10 ^ k → 0 < q → decs (g + 10 ^ k * q) = decs q ++ pad k g := by
  induction k with
  | zero => intro g q hg _; obtain rfl : g = 0 := by simpa using hg
            simp [pad]
  | succ k ih =>
    intro g q hg hq
    have e : 10 ^ (k + 1) = 10 * 10 ^ k := by rw [Nat.pow_succ, Nat.mul_comm]
    have hp : 0 < 10 ^ k := Nat.pow_pos (by omega)
    have hpq : 0 < 10 ^ k * q := Nat.mul_pos hp hq
    have e2 : 10 ^ (k + 1) * q = 10 * (10 ^ k * q) := by rw [e, Nat.mul_assoc]
    rw [e2, decs_pos (by omega), show (g + 10 * (10 ^ k * q)) / 10 = g / 10 + 10 ^ k * q by omega, show (g + 10 * (10 ^ k * q)) % 10 = g % 10 by omega, ih _ _ (by omega) hq, pad, List.append_assoc]
theorem pad_get (n : Nat) : ∀ (g k : Nat), k < n → (pad n g)[k]? = some (48 + g / 10 ^ (n - 1 - k) % 10) := by
  induction n with
  | zero => intro g k h; omega
  | succ n ih =>
    intro g k h
    rw [pad]
    rcases Nat.lt_or_ge k n with hk | hk
    · rw [List.getElem?_append_left (by rw [pad_length]; exact hk), ih _ _ hk, Nat.div_div_eq_div_mul, show n + 1 - 1 - k = (n - 1 - k) + 1 by omega, Nat.pow_succ, Nat.mul_comm]
    · obtain rfl : k = n := by omega
      rw [List.getElem?_append_right (by rw [pad_length]; omega), pad_length]
      simp
theorem pad_take_succ {n g k : Nat} (h : k < n) : (pad n g).take (k + 1) = (pad n g).take k ++ [48 + g / 10 ^ (n - 1 - k) % 10] := by
  rw [List.take_add_one, pad_get n g k h]; rfl
theorem pad_byte (n g : Nat) : ∀ b ∈ pad n g, b < 58 := by
  induction n generalizing g with
  | zero => intro b hb; simp [pad] at hb
  | succ n ih => intro b hb; rw [pad, List.mem_append] at hb; rcases hb with hb | hb
                 · exact ih _ b hb
                 · simp at hb; omega
theorem decs_byte (x : Nat) : ∀ b ∈ decs x, b < 58 := by
  induction x using Nat.strongRecOn with
  | ind x ih =>
    rcases Nat.eq_zero_or_pos x with h | h
    · subst h; rw [decs_zero]; simp
    · rw [decs_pos h]; intro b hb; rw [List.mem_append] at hb; rcases hb with hb | hb
      · exact ih _ (by omega) b hb
      · simp at hb; omega
theorem decs_length (k : Nat) : ∀ t, t < 10 ^ k → (decs t).length ≤ k := by
  induction k with
  | zero => intro t h; obtain rfl : t = 0 := by simpa using h
            rw [decs_zero]; simp
  | succ k ih =>
    intro t h
    rcases Nat.eq_zero_or_pos t with h0 | h0
    · subst h0; rw [decs_zero]; simp
    · rw [decs_pos h0, List.length_append]
      have := ih (t / 10) (by rw [Nat.pow_succ] at h; omega)
      simp; omega
/-- The texts of groups of nine digits, the last group first. -/
def pads : List Nat → List Nat
  | [] => []
  | g :: gs => pads gs ++ pad 9 g
theorem pads_snoc (gs : List Nat) (t : Nat) : pads (gs ++ [t]) = pad 9 t ++ pads gs := by
  induction gs with
  | nil => simp [pads]
  | cons g gs ih => rw [List.cons_append, pads, ih, pads, List.append_assoc]
theorem pads_take_succ {gs : List Nat} {k : Nat} (h : k < gs.length) : pads (gs.take (k + 1)) = pad 9 (gs.getD k 0) ++ pads (gs.take k) := by
  rw [List.take_succ_eq_append_getElem h, pads_snoc, List.getD_eq_getElem?_getD, List.getElem?_eq_getElem h]; rfl
theorem pads_length (gs : List Nat) : (pads gs).length = 9 * gs.length := by
  induction gs with
  | nil => rfl
  | cons g gs ih => rw [pads, List.length_append, ih, pad_length, List.length_cons]; omega
/-- The highest group of nine decimal digits. -/
def top9 (x : Nat) : Nat := if x < 1000000000 then x else top9 (x / 1000000000)
termination_by x
decreasing_by omega
theorem top9_small {x : Nat} (h : x < 1000000000) : top9 x = x := by rw [top9, if_pos h]
theorem top9_big {x : Nat} (h : 1000000000 ≤ x) : top9 x = top9 (x / 1000000000) := by rw [top9, if_neg (by omega)]
/-- What the groups say of the number. -/
def Groups (x y : Nat) (gs : List Nat) : Prop :=
  (0 < y → decs x = decs y ++ pads gs ∧ top9 x = top9 y) ∧ (y = 0 → ∃ gs' t, gs = gs' ++ [t] ∧ t = top9 x ∧ 0 < t ∧ t < 1000000000 ∧ decs x = decs t ++ pads gs')
theorem groups_start {x : Nat} (h : 0 < x) : Groups x x [] := ⟨fun _ => ⟨by simp [pads], rfl⟩, fun h0 => by omega⟩
theorem groups_step {x y : Nat} {gs : List Nat} (h : Groups x y gs) (hy : 0 < y) : Groups x (y / 1000000000) (gs ++ [y % 1000000000]) := by
  obtain ⟨h1, h2⟩ := h.1 hy
  refine ⟨fun hq => ?_, fun hq => ⟨gs, y, ?_, ?_, hy, ?_, h1⟩⟩
  · have e : y = y % 1000000000 + 10 ^ 9 * (y / 1000000000) := by rw [show (10 : Nat) ^ 9 = 1000000000 from rfl]; omega
    have := decs_split 9 (y % 1000000000) (y / 1000000000) (by rw [show (10 : Nat) ^ 9 = 1000000000 from rfl]; omega) hq
    rw [← e] at this
    exact ⟨by rw [h1, this, pads_snoc, List.append_assoc], by rw [h2, top9_big (by omega)]⟩
  · congr 2; omega
  · rw [h2, top9_small (by omega)]
  · omega
theorem scale_step (k : Nat) : 100000000 / 10 ^ k / 10 = 100000000 / 10 ^ (k + 1) := by rw [Nat.div_div_eq_div_mul, Nat.pow_succ]
theorem scale_pow {k : Nat} (h : k < 9) : 100000000 / 10 ^ k = 10 ^ (9 - 1 - k) := by
  have : k = 0 ∨ k = 1 ∨ k = 2 ∨ k = 3 ∨ k = 4 ∨ k = 5 ∨ k = 6 ∨ k = 7 ∨ k = 8 := by omega
  rcases this with rfl | rfl | rfl | rfl | rfl | rfl | rfl | rfl | rfl <;> rfl
theorem group_count {L n y x : Nat} (hx : x < Bs L) (h : 2 ^ (29 * n) * y ≤ x) (hy : 0 < y) : 29 * n < 32 * L := by
  have h1 : 2 ^ (29 * n) ≤ x := Nat.le_trans (Nat.le_mul_of_pos_right _ hy) h
  have h2 : Bs L = 2 ^ (32 * L) := by unfold Bs; rw [show 4294967296 = 2 ^ 32 from rfl, ← Nat.pow_mul]
  rw [h2] at hx
  exact (Nat.pow_lt_pow_iff_right (by omega)).1 (Nat.lt_of_le_of_lt h1 hx)
theorem group_step {n y x : Nat} (h : 2 ^ (29 * n) * y ≤ x) : 2 ^ (29 * (n + 1)) * (y / 1000000000) ≤ x := by
  refine Nat.le_trans ?_ h
  rw [Nat.mul_add, Nat.pow_add, Nat.mul_assoc]
  exact Nat.mul_le_mul_left _ (by omega)
end Go.Proofs.YtfonldogbfkpiaaGreat
namespace Go.Proofs.YtfonldogbfkpiaaGreat
open Go.RowKit

theorem ret_i64 {a b : Int} (h : a = b) : Ending.returned (.int .i64 a) = .returned (.int .i64 b) := by rw [h]

/-- Block b is a tape over ints that lie in other blocks. -/
def Tape (w : World) (b : Nat) : Prop := ∃ (A : Option Addr) (n c t : Nat), w.heap[b]? = some (.cells #[.slice A n c, .int .i64 (t : Int)] 46 (0, 0)) ∧ n ≤ 400 ∧ n ≤ c ∧ t ≤ 1000 ∧
  ∀ j, j < n → ∃ ad z, A = some ad ∧ ad.block < b ∧ w.cell? (ad.add j) = some (.int .i64 z)

theorem Tape.keep {w w' : World} {b B : Nat} (h : Tape w b) (hb : Below B w w') (hB : b < B) : Tape w' b := by
  obtain ⟨A, n, c, t, h1, h2, h3, h4, h5⟩ := h
  refine ⟨A, n, c, t, (hb.block b hB).trans h1, h2, h3, h4, fun j hj => ?_⟩
  obtain ⟨ad, z, e1, e2, e4⟩ := h5 j hj
  exact ⟨ad, z, e1, e2, (hb.cell (by rw [addr_add_block]; omega)).trans e4⟩

theorem tape_step {w : World} {b : Nat} {A : Option Addr} {n c t : Nat} (h1 : w.heap[b]? = some (.cells #[.slice A n c, .int .i64 (t : Int)] 46 (0, 0))) (h2 : n ≤ 400) (h3 : n ≤ c) (ht : t < n)
    (h5 : ∀ j, j < n → ∃ ad z, A = some ad ∧ ad.block < b ∧ w.cell? (ad.add j) = some (.int .i64 z)) : Tape (w.setCell ⟨b, 1, none⟩ (.int .i64 ((t : Int) + 1))) b := by
  refine ⟨A, n, c, t + 1, ?_, h2, h3, by omega, fun j hj => ?_⟩
  · rw [heap_setCell_same w b 1 _ _ _ h1]; simp
  · obtain ⟨ad, z, e1, e2, e4⟩ := h5 j hj
    refine ⟨ad, z, e1, e2, ?_⟩
    rw [World.cell?_of_block (Below.heap_setCell w _ _ _ (by rw [addr_add_block]; exact Nat.ne_of_lt e2))]
    exact e4
theorem only_setCell1 {w : World} (b : Nat) (u : Value) (j : Nat) : w.grownBy ((w.drewN j).setCell ⟨b, 1, none⟩ u) (some b) :=
  ⟨rfl, rfl, rfl, by simp [World.setCell], fun i _ hne => Below.heap_setCell (w.drewN j) ⟨b, 1, none⟩ u i (by rintro rfl; exact hne rfl)⟩

set_option maxRecDepth 100000 in
set_option maxHeartbeats 400000 in
theorem next_any {b : Nat} {w : World} (m : Nat) (hm : 0 < m) (hm2 : m ≤ 1000000) (h : Tape w b) :
    Calls Tryz.prog 33 #[.pointer (some ⟨b, 0, none⟩), .int .i64 (m : Int)] w fun e w' => ∃ r : Nat, e = .returned (.int .i64 (r : Int)) ∧ r < m ∧ Tape w' b ∧ w.grownBy w' (some b) := by
  obtain ⟨A, n, c, t, hblk, hn, hc, ht, hcells⟩ := h
  have c0 : w.cell? ⟨b, 0, none⟩ = some (.slice A n c) := cell_of_row w b 0 _ _ _ hblk
  have c1 : w.cell? ⟨b, 1, none⟩ = some (.int .i64 (t : Int)) := cell_of_row w b 1 _ _ _ hblk
  have f1 : w.frozen? ⟨b, 1, none⟩ = false := frozen_of_row w b 1 _ _ hblk
  rcases Nat.lt_or_ge t n with hlt | hge
  · obtain ⟨ad, z, hA, hb, hcz⟩ := hcells t hlt
    subst hA
    have hst := tape_step hblk hn hc hlt hcells
    have HB := Lib.hid hblk
    have HC := Lib.hid hcells
    clear hblk hcells
    have hz1 : z.tmod (m : Int) < (m : Int) := Int.tmod_lt_of_pos z (by omega)
    have hz2 : -(m : Int) < z.tmod (m : Int) := Int.lt_tmod_of_pos z (by omega)
    by_cases hneg : z.tmod (m : Int) < 0
    · go_enter Tryz.func33, Tryz.ntmps33
      go_wp2_with fail
      go_quiet (fail)
      go_wp2_with fail
      go_quiet (fail)
      go_wp2_with fail
      go_ret
      exact ⟨(z.tmod (m : Int) + (m : Int)).toNat, ret_i64 (by omega), by omega, hst, only_setCell1 b _ _⟩
    · go_enter Tryz.func33, Tryz.ntmps33
      go_wp2_with fail
      go_quiet (fail)
      go_wp2_with fail
      go_quiet (fail)
      go_wp2_with fail
      go_ret
      exact ⟨(z.tmod (m : Int)).toNat, ret_i64 (by omega), by omega, hst, only_setCell1 b _ _⟩
  · have HB := Lib.hid hblk
    have HC := Lib.hid hcells
    clear hblk hcells
    go_enter Tryz.func33, Tryz.ntmps33
    go_wp2_with fail
    go_quiet (fail)
    go_wp2_with fail
    go_ret
    exact ⟨0, rfl, hm, ⟨A, n, c, t, HB.out, hn, hc, ht, HC.out⟩, ⟨rfl, rfl, rfl, Nat.le_refl _, fun _ _ _ => rfl⟩⟩
end Go.Proofs.YtfonldogbfkpiaaGreat
namespace Go.Proofs.YtfonldogbfkpiaaGreat
open Go.RowKit

theorem Grow.other {w w' : World} {B b : Nat} {v : Value} {ds : List Nat} (h : Grow w B v ds) (hg : w.grownBy w' (some b)) (hb : b < B) : Grow w' B v ds := by
  obtain ⟨hd, h1, h2⟩ := h
  refine ⟨hd, h1, ?_⟩
  rcases h2 with h2 | ⟨g, cap, cur, hv, hgB, hh, h3⟩
  · exact .inl h2
  · refine .inr ⟨g, cap, cur, hv, hgB, (hg.block g ?_ (by intro e; injection e with e; omega)).trans hh, h3⟩
    rcases Nat.lt_or_ge g w.heap.size with hlt | hge
    · exact hlt
    · rw [Array.getElem?_eq_none hge] at hh; cases hh
theorem only_trans {a b c : World} {g : Option Nat} (h : a.grownBy b g) (k : b.grownBy c g) : a.grownBy c g :=
  ⟨k.os.trans h.os, k.tape.trans h.tape, k.output.trans h.output, Nat.le_trans h.size k.size, fun i hi hne => (k.block i (Nat.lt_of_lt_of_le hi h.size) hne).trans (h.block i hi hne)⟩
theorem only_below {a b c : World} {g : Option Nat} {B : Nat} (h : a.grownBy b g) (k : Below B b c) (hB : a.heap.size ≤ B) : a.grownBy c g :=
  ⟨k.os.trans h.os, k.tape.trans h.tape, k.output.trans h.output, Nat.le_trans h.size k.size, fun i hi hne => (k.block i (Nat.lt_of_lt_of_le hi hB)).trans (h.block i hi hne)⟩
theorem only_alloc' {a w : World} {row : Option Nat} (h : a.grownBy w row) (o : Obj) : a.grownBy (w.alloc o) row := only_below h (below_alloc w o) h.size

/-- The slice of ints that a law is called with. -/
def Ints (w : World) (v : Value) : Prop := ∃ (A : Option Addr) (n c : Nat), v = .slice A n c ∧ n ≤ c ∧ n ≤ 9223372036854775807 ∧ ∀ j, j < n → ∃ ad z, A = some ad ∧ ad.block < w.heap.size ∧ w.cell? (ad.add j) = some (.int .i64 z)

set_option maxRecDepth 100000 in
theorem new_any {v : Value} {w : World} (h : Ints w v) :
    Calls Tryz.prog 4 #[v] w fun e w' => e = .returned (.pointer (some ⟨w.heap.size, 0, none⟩)) ∧ Tape w' w.heap.size ∧ Below w.heap.size w w' ∧ w'.heap.size = w.heap.size + 1 := by
  obtain ⟨A, n, c, rfl, hn, hc, hcell⟩ := h
  have HC := Lib.hid hcell
  clear hcell
  by_cases h4 : n ≤ 400
  · go_enter Tryz.func4, Tryz.ntmps4
    go_wp2_with fail
    go_ret
    refine ⟨rfl, ⟨A, n, c, 0, heap_alloc_new w _, h4, hn, by omega, fun j hj => ?_⟩, below_alloc w _, by simp⟩
    obtain ⟨ad, z, e1, e2, e3⟩ := HC.out j hj
    exact ⟨ad, z, e1, e2, (World.cell?_alloc_lt w _ _ (by rw [addr_add_block]; exact e2)).trans e3⟩
  · go_enter Tryz.func4, Tryz.ntmps4
    go_wp2_with fail
    go_ret
    refine ⟨rfl, ⟨A, 400, c, 0, heap_alloc_new w _, by omega, by omega, by omega, fun j hj => ?_⟩, below_alloc w _, by simp⟩
    obtain ⟨ad, z, e1, e2, e3⟩ := HC.out j (by omega)
    exact ⟨ad, z, e1, e2, (World.cell?_alloc_lt w _ _ (by rw [addr_add_block]; exact e2)).trans e3⟩

theorem shl16 (a : Nat) (ha : a < 65536) : ((a : Int) * 65536) % 4294967296 = (a : Int) * 65536 := by omega
theorem or16 (a b : Nat) (ha : a < 65536) (hb : b < 65536) : bits .or .u32 ((a : Int) * 65536) (b : Int) = ((a * 65536 + b : Nat) : Int) := by
  have := u32_or_nat (a * 65536) b (by omega) (by omega)
  rw [Int.natCast_mul, show ((65536 : Nat) : Int) = 65536 from rfl] at this
  rw [this]
  congr 1
  rw [show a * 65536 = a <<< 16 by rw [Nat.shiftLeft_eq], ← Nat.shiftLeft_add_eq_or_of_lt (by omega)]

end Go.Proofs.YtfonldogbfkpiaaGreat
namespace Go.Proofs.YtfonldogbfkpiaaGreat
open Go.RowKit

theorem GrowB.other {w w' : World} {B b : Nat} {v : Value} {ds : List Nat} (h : GrowB w B v ds) (hg : w.grownBy w' (some b)) (hb : b < B) : GrowB w' B v ds := by
  obtain ⟨hd, h1, h2⟩ := h
  refine ⟨hd, h1, ?_⟩
  rcases h2 with h2 | ⟨g, cap, cur, hv, hgB, hh, h3⟩
  · exact .inl h2
  · refine .inr ⟨g, cap, cur, hv, hgB, (hg.block g ?_ (by intro e; injection e with e; omega)).trans hh, h3⟩
    rcases Nat.lt_or_ge g w.heap.size with hlt | hge
    · exact hlt
    · rw [Array.getElem?_eq_none hge] at hh; cases hh
theorem okB_of {bs : List Nat} (h : ∀ b ∈ bs, b < 58) : OkB bs := fun b hb => by have := h b hb; omega

theorem ownb_lit (w : World) (cs : Array Value) (ds : List Nat) (h : cs.toList = ds.map bv) : OwnB (w.alloc (.cells cs 5)) w.heap.size ds :=
  ⟨[], by rw [heap_alloc_new, List.append_nil, ← h]⟩
theorem okB_one {a : Nat} (ha : a < 256) : OkB [a] := okB_cons.2 ⟨ha, okB_nil⟩
def lenV : Value → Nat | .slice _ n _ => n | _ => 0
/-- A string of bytes given as numbers. -/
def strB (bs : List Nat) : ByteArray := ⟨(bs.map UInt8.ofNat).toArray⟩

end Go.Proofs.YtfonldogbfkpiaaGreat
