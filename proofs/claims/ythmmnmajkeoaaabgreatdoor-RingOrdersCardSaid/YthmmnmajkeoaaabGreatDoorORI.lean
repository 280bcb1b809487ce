/-
  RiA, RiB, RiC in one text.
-/
import Derived.Test.YthmmnmajkeoaaabGreatDoorOSO
import Derived.IntWalk
import Derived.Deep.Cut
namespace Go.Proofs.YthmmnmajkeoaaabGreatDoor
open Go.RowKit
section
variable {w w' : World} {L : Nat} {b : Nat} {zs : List PP}
theorem FP.tape (h : FP w L zs) (hT : Tape w b) (hg : w.grownBy w' (some b)) : FP w' L zs := fun z hz => ⟨(h z hz).1.tape hT hg, (h z hz).2.tape hT hg⟩
theorem FP.more {L' : Nat} (h : FP w L zs) (hL : L ≤ L') : FP w L' zs := fun z hz => ⟨(h z hz).1.more hL, (h z hz).2.more hL⟩
theorem tape_cell {o : Nat} {s : Bool} (hT : Tape w b) (h : w.cell? ⟨b, o, none⟩ = some (.bool s)) : False := by
  obtain ⟨A, n, c, t, h1, _⟩ := hT
  have h2 := cell_of_row w b o _ _ _ h1
  rw [h] at h2
  match o with
  | 0 => cases h2
  | 1 => cases h2
  | n + 2 => simp at h2
theorem ReadR.tape {v : Value} (h : ReadR w 6 v (rowsP zs)) (hT : Tape w b) (hg : w.grownBy w' (some b)) : ReadR w' 6 v (rowsP zs) := by
  obtain ⟨hk, A, c, e, h1, h2, h3⟩ := h
  refine ⟨hk, A, c, e, h1, h2, fun hne => ?_⟩
  obtain ⟨g, o, e1, h6⟩ := h3 hne
  refine ⟨g, o, e1, fun i cs hi j x hx => ?_⟩
  have hgb : g ≠ b := by
    intro he
    cases zs with
    | nil => exact hne rfl
    | cons z t =>
      have h7 := h6 0 z.cells rfl 0 _ rfl
      rw [he] at h7
      exact tape_cell hT h7
  have h8 := h6 i cs hi j x hx
  exact (World.cell?_of_block (a := ⟨g, o + (i * 6 + j), none⟩) (hg.block g (World.block_lt_of_cell? w ⟨g, o + (i * 6 + j), none⟩ h8) (fun he => by injection he with he; exact hgb he))).trans h8
theorem lr3 : List.range 3 = [0, 1, 2] := rfl
theorem lr4 : List.range 4 = [0, 1, 2, 3] := rfl
theorem stops3 {a b c : Rat × Rat} (h1 : a ≠ b) (h2 : b ≠ c) (h3 : c ≠ a) : stopsP [a, b, c] = false := by
  unfold stopsP
  simp [lr3, h1, h2, h3]
theorem opens3 {a b c : Rat × Rat} (h : c ≠ b) : opensP [a, b, c] = true := by
  unfold opensP
  simp [lr3, h]
theorem stops4 {a b c d : Rat × Rat} (h1 : a ≠ b) (h2 : b ≠ c) (h3 : c ≠ d) (h4 : d ≠ a) : stopsP [a, b, c, d] = false := by
  unfold stopsP
  simp [lr4, h1, h2, h3, h4]
theorem opens4 {a b c d : Rat × Rat} (h : d ≠ b) : opensP [a, b, c, d] = true := by
  unfold opensP
  simp [lr4, h]
theorem pt_ne {a b c d : Int} (h : ¬ (a = c ∧ b = d)) : (((a : Rat), (b : Rat)) : Rat × Rat) ≠ ((c : Rat), (d : Rat)) := fun e => by
  have h1 := Rat.intCast_inj.1 (congrArg Prod.fst e)
  have h2 := Rat.intCast_inj.1 (congrArg Prod.snd e)
  exact h ⟨h1, h2⟩
/-- A ring that the tape makes. -/
def RingOk (zs : List PP) : Prop := 3 ≤ zs.length ∧ zs.length ≤ 6 ∧ stopsB zs = false ∧ opensB zs = true
theorem tpp_v (hT : Tape w b) (hb : b < w.heap.size) :
    Calls Tryz.prog 15 #[.pointer (some ⟨b, 0, none⟩)] w fun e w' => ∃ (i j : Int) (x : PP), e = .returned (.agg #[.bool x.s0, .slice x.A0 x.n0 x.c0, .slice x.D0 x.m0 x.e0, .bool x.s1, .slice x.A1 x.n1 x.c1, .slice x.D1 x.m1 x.e1]) ∧ x.pt = ((i : Rat), (j : Rat)) ∧ x.pq w' 2 ∧ Tape w' b ∧ w.grownBy w' (some b) := by
  refine (tp_v hT hb).mono ?_
  rintro e w2 ⟨x, y, s2, A2, n2, c2, D2, m2, e2, s3, A3, n3, c3, D3, m3, e3, rfl, _, k0, k1, hT2, hg⟩
  exact ⟨x, y, ⟨s2, A2, n2, c2, D2, m2, e2, s3, A3, n3, c3, D3, m3, e3, x, y⟩, rfl, rfl, ⟨k0, k1⟩, hT2, hg⟩
theorem tvv_v (hT : Tape w b) (hb : b < w.heap.size) :
    Calls Tryz.prog 16 #[.pointer (some ⟨b, 0, none⟩)] w fun e w' => ∃ (i j : Int) (x : PP), e = .returned (.agg #[.bool x.s0, .slice x.A0 x.n0 x.c0, .slice x.D0 x.m0 x.e0, .bool x.s1, .slice x.A1 x.n1 x.c1, .slice x.D1 x.m1 x.e1]) ∧ x.pt = ((i : Rat), (j : Rat)) ∧ x.pq w' 2 ∧ Tape w' b ∧ w.grownBy w' (some b) := by
  refine (tv_v hT hb).mono ?_
  rintro e w2 ⟨x, y, s2, A2, n2, c2, D2, m2, e2, s3, A3, n3, c3, D3, m3, e3, rfl, _, _, k0, k1, hT2, hg⟩
  exact ⟨x, y, ⟨s2, A2, n2, c2, D2, m2, e2, s3, A3, n3, c3, D3, m3, e3, x, y⟩, rfl, rfl, ⟨k0, k1⟩, hT2, hg⟩
theorem PP.pq.tape {x : PP} (h : x.pq w L) (hT : Tape w b) (hg : w.grownBy w' (some b)) : x.pq w' L := ⟨h.1.tape hT hg, h.2.tape hT hg⟩
theorem samepp_v {x y : PP} {L' : Nat} {k : Bool} (hx : x.pq w L) (hy : y.pq w L') (hL : L ≤ 100) (hL' : L' ≤ 100) (hk : decide (x.pt = y.pt) = k) :
    Calls Tryz.prog 21 #[.agg #[.bool x.s0, .slice x.A0 x.n0 x.c0, .slice x.D0 x.m0 x.e0, .bool x.s1, .slice x.A1 x.n1 x.c1, .slice x.D1 x.m1 x.e1], .agg #[.bool y.s0, .slice y.A0 y.n0 y.c0, .slice y.D0 y.m0 y.e0, .bool y.s1, .slice y.A1 y.n1 y.c1, .slice y.D1 y.m1 y.e1]] w fun e w' => e = .returned (.bool k) ∧ Below w.heap.size w w' := by
  obtain ⟨j, hj⟩ : ∃ j, cmpQ x.q0 x.q1 y.q0 y.q1 = j := ⟨_, rfl⟩
  refine (gsame_v hx.1 hx.2 hy.1 hy.2 hL hL' hj).mono ?_
  rintro e w2 ⟨rfl, hb⟩
  refine ⟨?_, hb⟩
  rw [← hk]
  rcases cmpQ_lt (x := x) (y := y) with ⟨e, h⟩ | ⟨e, h⟩ | ⟨e, h⟩
  · rw [hj] at e; subst e; rw [decide_eq_false (fun he => by rw [he] at h; exact ptLt_tot.irr _ h)]; rfl
  · rw [hj] at e; subst e; rw [decide_eq_true h]; rfl
  · rw [hj] at e; subst e; rw [decide_eq_false (fun he => by rw [he] at h; exact ptLt_tot.irr _ h)]; rfl
theorem FP.snoc {x : PP} (h : FP w L zs) (hx : x.pq w L) : FP w L (zs ++ [x]) := fun z hz => by
  rcases List.mem_append.1 hz with h1 | h1
  · exact h z h1
  · rw [List.mem_singleton.1 h1]; exact hx
theorem gadd_pp {x y : PP} {L0 L1 : Nat} {s2 : Bool} {A2 D2 : Option Addr} {n2 c2 m2 e2 : Nat} {q2 : Rat} (hx : x.pq w L) (k1 : PQ w s2 (.slice A2 n2 c2) (.slice D2 m2 e2) q2 L0) (hy : y.pq w L1) (hL : L ≤ 100) (hL0 : L0 ≤ 40) (hL1 : L1 ≤ 40) :
    Calls Tryz.prog 19 #[.agg #[.bool x.s0, .slice x.A0 x.n0 x.c0, .slice x.D0 x.m0 x.e0, .bool x.s1, .slice x.A1 x.n1 x.c1, .slice x.D1 x.m1 x.e1], .agg #[.bool s2, .slice A2 n2 c2, .slice D2 m2 e2], .agg #[.bool y.s0, .slice y.A0 y.n0 y.c0, .slice y.D0 y.m0 y.e0, .bool y.s1, .slice y.A1 y.n1 y.c1, .slice y.D1 y.m1 y.e1]] w fun e w' => ∃ z : PP, e = .returned (.agg #[.bool z.s0, .slice z.A0 z.n0 z.c0, .slice z.D0 z.m0 z.e0, .bool z.s1, .slice z.A1 z.n1 z.c1, .slice z.D1 z.m1 z.e1]) ∧ z.pt = (x.q0 + q2 * y.q0, x.q1 + q2 * y.q1) ∧ z.pq w' (max L 1 + max L0 1 + max L1 1 + 2) ∧ Below w.heap.size w w' := by
  refine (gadd_v hx.1 hx.2 k1 hy.1 hy.2 hL hL0 hL1).mono ?_
  rintro e w2 ⟨s6, A6, n6, c6, D6, m6, e6, s7, A7, n7, c7, D7, m7, e7, rfl, k0, k1, hb⟩
  exact ⟨⟨s6, A6, n6, c6, D6, m6, e6, s7, A7, n7, c7, D7, m7, e7, _, _⟩, rfl, rfl, ⟨k0, k1⟩, hb⟩
theorem tri_ne {a b c d : Rat} (h : a * d - b * c ≠ 0) : ¬ (a = 0 ∧ b = 0) ∧ ¬ (c = 0 ∧ d = 0) ∧ ¬ (a = c ∧ b = d) := by
  refine ⟨?_, ?_, ?_⟩ <;> rintro ⟨rfl, rfl⟩ <;> exact h (by grind)
theorem tri_pts {p u v q r : PP} (h : u.q0 * v.q1 - u.q1 * v.q0 ≠ 0) (hq : q.pt = (p.q0 + ((1 : Int) : Rat) * u.q0, p.q1 + ((1 : Int) : Rat) * u.q1)) (hr : r.pt = (p.q0 + ((1 : Int) : Rat) * v.q0, p.q1 + ((1 : Int) : Rat) * v.q1)) : p.pt ≠ q.pt ∧ q.pt ≠ r.pt ∧ r.pt ≠ p.pt := by
  obtain ⟨a, b, c⟩ := tri_ne h
  have one : ((1 : Int) : Rat) = 1 := rfl
  rw [hq, hr, one]
  refine ⟨fun e => a ?_, fun e => c ?_, fun e => b ?_⟩
  · have e0 : p.q0 = p.q0 + 1 * u.q0 := congrArg Prod.fst e
    have e1 : p.q1 = p.q1 + 1 * u.q1 := congrArg Prod.snd e
    exact ⟨by grind, by grind⟩
  · have e0 : p.q0 + 1 * u.q0 = p.q0 + 1 * v.q0 := congrArg Prod.fst e
    have e1 : p.q1 + 1 * u.q1 = p.q1 + 1 * v.q1 := congrArg Prod.snd e
    exact ⟨by grind, by grind⟩
  · have e0 : p.q0 + 1 * v.q0 = p.q0 := congrArg Prod.fst e
    have e1 : p.q1 + 1 * v.q1 = p.q1 := congrArg Prod.snd e
    exact ⟨by grind, by grind⟩
theorem rsg_ne {q : Rat} (h : rsg q ≠ 0) : q ≠ 0 := fun e => by subst e; exact h rfl
def lenOf : Value → Nat
  | .slice _ n _ => n
  | _ => 0
/-- No two neighbours of a list are the same. -/
def AdjNe (l : List (Rat × Rat)) : Prop := ∀ i p q, l[i]? = some p → l[i + 1]? = some q → p ≠ q
theorem AdjNe.nil : AdjNe [] := fun i p q h => by cases h
theorem AdjNe.snoc {l : List (Rat × Rat)} {x : Rat × Rat} (h : AdjNe l) (hx : ∀ p, l[l.length - 1]? = some p → p ≠ x) : AdjNe (l ++ [x]) := by
  intro i p q hp hq
  have hi : i + 1 < (l ++ [x]).length := (List.getElem?_eq_some_iff.1 hq).1
  rw [List.length_append, List.length_singleton] at hi
  rw [List.getElem?_append_left (by omega)] at hp
  rcases Nat.lt_or_ge (i + 1) l.length with h1 | h1
  · rw [List.getElem?_append_left h1] at hq
    exact h i p q hp hq
  · have h2 : i = l.length - 1 := by omega
    rw [List.getElem?_append_right h1, show i + 1 - l.length = 0 by omega] at hq
    injection hq with hq
    subst hq
    rw [h2] at hp
    exact hx p hp
theorem AdjNe.take {l : List (Rat × Rat)} (h : AdjNe l) (k : Nat) : AdjNe (l.take k) := fun i p q hp hq => by
  rw [List.getElem?_take] at hp hq
  split at hp
  · split at hq
    · exact h i p q hp hq
    · cases hq
  · cases hp
theorem ring_stops {l : List (Rat × Rat)} (h : AdjNe l) (h2 : 2 ≤ l.length) (hne : ∀ p q, l[0]? = some p → l[l.length - 1]? = some q → p ≠ q) : stopsP l = false := by
  refine stops_of (fun i hi he => ?_)
  have hp : l[i]? = some (l.getD i (0, 0)) := by rw [List.getD_eq_getElem?_getD, List.getElem?_eq_getElem hi]; rfl
  rcases Nat.lt_or_ge (i + 1) l.length with h1 | h1
  · rw [Nat.mod_eq_of_lt h1] at he
    have hq : l[i + 1]? = some (l.getD (i + 1) (0, 0)) := by rw [List.getD_eq_getElem?_getD, List.getElem?_eq_getElem h1]; rfl
    exact h i _ _ hp hq he
  · have h3 : i + 1 = l.length := by omega
    rw [h3, Nat.mod_self] at he
    have hq : l[0]? = some (l.getD 0 (0, 0)) := by rw [List.getD_eq_getElem?_getD, List.getElem?_eq_getElem (by omega)]; rfl
    refine hne _ _ hq ?_ he.symm
    rw [show l.length - 1 = i by omega]; exact hp
theorem wsub4 {r : Nat} (hr : r < 9) : IntKind.i64.wrap ((r : Int) - 4) = (r : Int) - 4 := by simp [IntKind.wrap, IntKind.bits, IntKind.signed]; omega
end
end Go.Proofs.YthmmnmajkeoaaabGreatDoor
namespace Go.Proofs.YthmmnmajkeoaaabGreatDoor
open Go.RowKit
theorem wp_cut_blk {P : Program} {s : Code} {n : Nat} {K : Act → World → Prop} {Q' : Exit → Act → World → Prop} {a : Act} {w : World} (R : Act → World → Prop) (rest : ∀ a' w', R a' w' → K a' w')
    (first : ∀ K' : Act → World → Prop, (∀ a' w', R a' w' → K' a' w') → s.wp P (Exit.inBlock n (Exit.then K' Q')) a w) : s.wp P (Exit.inBlock n (Exit.then K Q')) a w := first K rest
section
variable {w : World}
set_option maxRecDepth 100000 in
set_option maxHeartbeats 8000000 in
theorem ring_v {b : Nat} (hT : Tape w b) (hb : b < w.heap.size) :
    Calls Tryz.prog 5 #[.pointer (some ⟨b, 0, none⟩)] w fun e w' => ∃ (A : Option Addr) (c : Nat) (zs : List PP), e = .returned (.slice A zs.length c) ∧ ReadR w' 6 (.slice A zs.length c) (rowsP zs) ∧ FP w' 8 zs ∧ RingOk zs ∧ Tape w' b ∧ w.grownBy w' (some b) := by
  go_enter Tryz.func5, Tryz.ntmps5
  go_wp2_with fail
  have G0 : w.grownBy w (some b) := ⟨rfl, rfl, rfl, Nat.le_refl _, fun _ _ _ => rfl⟩
  have hlt := hb
  refine (next_any 4 (by decide) (by decide) hT).mono ?_
  rintro e w1 ⟨r0, rfl, hr0, hT', hg⟩
  replace hlt := Nat.lt_of_lt_of_le hlt hg.size
  replace G0 := only_trans G0 hg
  clear hT
  have hT := hT'
  clear hT' hg
  go_upto_if 15 with fail
  refine wp_cut_blk (fun ax wx => ∃ u7 u8 u9 u13 u14 u15 u16 u46 u47 u48 u49 u50 u51 u52 u53 u54 u55 u56 u57 u58, ax = ⟨#[.pointer (some ⟨b, 0, none⟩), undef, .slice none 0 0, undef, undef, undef, undef, u7, u8, u9, undef, undef, undef, u13, u14, u15, u16, undef, undef, undef, undef, undef, undef, undef, undef, undef, undef, undef, undef, undef, undef, undef, undef, undef, undef, undef, undef, undef, undef, undef, undef, undef, undef, undef, undef, undef, u46, u47, u48, u49, u50, u51, u52, u53, u54, u55, u56, u57, u58, undef, undef, undef, undef, undef, undef, undef, undef, undef, undef, undef, undef, undef, undef, undef, undef, undef, undef, undef, undef, undef, undef, undef, undef, undef, undef, undef, undef, undef, undef, undef, undef, undef, undef, undef, undef, undef, undef, undef, undef, undef, undef, undef, undef, undef, undef, undef, undef, undef, undef, undef, undef, undef, undef, undef, undef, undef, undef, undef, undef, undef, undef, undef, undef, undef, undef], []⟩ ∧ Tape wx b ∧ b < wx.heap.size ∧ w.grownBy wx (some b)) ?rest ?first
  case rest =>
    clear hT hlt G0 hr0 w1 r0
    rintro ax wy ⟨u7, u8, u9, u13, u14, u15, u16, u46, u47, u48, u49, u50, u51, u52, u53, u54, u55, u56, u57, u58, rfl, hT, hlt, G0⟩
    go_wp2_with fail
    refine (next_any 4 (by decide) (by decide) hT).mono ?_
    rintro e wq1 ⟨rk, rfl, hrk, hT', hg⟩
    replace hlt := Nat.lt_of_lt_of_le hlt hg.size
    replace G0 := only_trans G0 hg
    clear hT
    have hT := hT'
    clear hT' hg
    have wk : IntKind.i64.wrap (3 + (rk : Int)) = 3 + (rk : Int) := IntWalk.i64_in _ (by omega)
    go_wp2_with fail
    go_loopw [10, 11] (fun t10 t11 wr => ∃ (i : Nat) (A9 : Option Addr) (c9 : Nat) (ys : List PP), i + ys.length ≤ 6 ∧ t11 = .int .i64 (i : Int) ∧ t10 = .slice A9 ys.length c9 ∧ OwnE wr w.heap.size 51 6 (.slice A9 ys.length c9) (rowsP ys) ∧ FP wr 2 ys ∧ AdjNe (ys.map PP.pt) ∧ Tape wr b ∧ b < wr.heap.size ∧ w.grownBy wr (some b)) (fun _ t11 _ => (intOf t11).toNat)
    case atStart => exact ⟨3 + rk, none, 0, [], by simp; omega, by simp, rfl, OwnE.nil _ _ _ _, (fun _ h => by cases h), AdjNe.nil, hT, hlt, G0⟩
    case round =>
      clear hT hlt G0 wk
      obtain ⟨i, A9, c9, ys, hi, rfl, rfl, hown, hF, hadj, hT, hlt, G0⟩ := hrel
      have HADJ := Lib.hid hadj
      clear hadj
      by_cases hpos : 0 < i
      · obtain ⟨j, rfl⟩ : ∃ j, i = j + 1 := ⟨i - 1, by omega⟩
        have hp1 : decide ((0 : Int) < (j : Int) + 1) = true := decide_eq_true (by omega)
        have wj : IntKind.i64.wrap ((j : Int) + 1 - 1) = (j : Int) := by rw [Int.add_sub_cancel]; exact IntWalk.i64_in _ (by omega)
        have wj2 : IntKind.i64.wrap (j : Int) = (j : Int) := IntWalk.i64_in _ (by omega)
        clear hpos
        go_wp2_with fail
        refine (tpp_v hT hlt).mono ?_
        rintro e wq2 ⟨pi, pj, x, rfl, hx, kx, hT', hg⟩
        replace hF := hF.tape hT hg
        replace hown := hown.kept hg (.inr (hown.ne hb))
        replace hlt := Nat.lt_of_lt_of_le hlt hg.size
        replace G0 := only_trans G0 hg
        clear hT
        have hT := hT'
        clear hT' hg
        have HX := Lib.hid hx
        clear hx
        obtain ⟨wo, hW, b5, hbW, hsz⟩ := boxes1 wq2 #[.bool x.s0, .slice x.A0 x.n0 x.c0, .slice x.D0 x.m0 x.e0, .bool x.s1, .slice x.A1 x.n1 x.c1, .slice x.D1 x.m1 x.e1] 51
        clear hsz
        replace hF := hF.below hbW
        replace kx := kx.below hbW
        replace hown := hown.below hbW
        replace hT := hT.keep hbW hlt
        replace hlt := Nat.lt_of_lt_of_le hlt hbW.size
        replace G0 := only_below G0 hbW G0.size
        go_upto_region 16 with fail
        clear hW hbW
        obtain ⟨gb, hgb⟩ : ∃ gb, wq2.heap.size = gb := ⟨_, rfl⟩
        rw [hgb] at b5 ⊢
        clear hgb
        rcases Nat.eq_zero_or_pos ys.length with hy0 | hy0
        · obtain rfl := List.eq_nil_of_length_eq_zero hy0
          clear hy0
          have hD := drawn_below wo
          replace hF := hF.below hD
          replace kx := kx.below hD
          replace b5 := b5.below hD
          replace hown := hown.below hD
          replace hT := hT.keep hD hlt
          replace hlt := Nat.lt_of_lt_of_le hlt hD.size
          replace G0 := only_below G0 hD G0.size
          clear hD
          refine wp_region_noPanic ?_
          refine wp_region_held_drew (S := (fun _ => True)) (by kernel_rfl) trivial (fun hHeld => ?_)
          generalize wo.drew = v3 at hHeld hT hlt G0 hF kx b5 hown ⊢
          refine wpAnyH_take (i := 0) (v := ?_) rfl (by kernel_rfl) (by kernel_rfl) (by kernel_rfl) (fun _ _ _ h => h) (Or.inl ⟨by rfl, ?_⟩) (by assumption) ?_
          rotate_left
          · (intro w hSw; (try dsimp only at hSw); go_simp; (try with_reducible rfl))
          (try simp only [List.getElem_toArray, List.getElem_cons_zero, Act.put, List.setIfInBounds_toArray, List.set_cons_zero, List.set_cons_succ])
          refine wpAnyH_take (i := 1) (v := ?_) rfl (by kernel_rfl) (by kernel_rfl) (by kernel_rfl) (fun _ _ _ h => h) (Or.inl ⟨by rfl, ?_⟩) (by assumption) ?_
          rotate_left
          · (intro w hSw; (try dsimp only at hSw); go_simp; (try with_reducible rfl))
          (try simp only [List.getElem_toArray, List.getElem_cons_succ, List.getElem_cons_zero, Act.put, List.setIfInBounds_toArray, List.set_cons_zero, List.set_cons_succ])
          refine wpAnyH_take (i := 2) (v := ?_) rfl (by kernel_rfl) (by kernel_rfl) (by kernel_rfl) (fun _ _ _ h => h) (Or.inl ⟨by rfl, ?_⟩) (by assumption) ?_
          rotate_left
          · (intro w hSw; (try dsimp only at hSw); go_simp; (try with_reducible rfl))
          (try simp only [List.getElem_toArray, List.getElem_cons_succ, List.getElem_cons_zero, Act.put, List.setIfInBounds_toArray, List.set_cons_zero, List.set_cons_succ])
          refine wpAnyH_take (i := 3) (v := ?_) rfl (by kernel_rfl) (by kernel_rfl) (by kernel_rfl) (fun _ _ _ h => h) (Or.inl ⟨by rfl, ?_⟩) (by assumption) ?_
          rotate_left
          · (intro w hSw; (try dsimp only at hSw); go_simp; (try with_reducible rfl))
          (try simp only [List.getElem_toArray, List.getElem_cons_succ, List.getElem_cons_zero, Act.put, List.setIfInBounds_toArray, List.set_cons_zero, List.set_cons_succ])
          refine wpAnyH_take (i := 4) (v := undef) rfl (by kernel_rfl) (by kernel_rfl) (by kernel_rfl) (fun _ _ _ h => h) (Or.inr ⟨by rfl, rfl⟩) (by assumption) ?_
          (try simp only [List.getElem_toArray, List.getElem_cons_succ, List.getElem_cons_zero, Act.put, List.setIfInBounds_toArray, List.set_cons_zero, List.set_cons_succ])
          refine wpAnyH_take (i := 5) (v := undef) rfl (by kernel_rfl) (by kernel_rfl) (by kernel_rfl) (fun _ _ _ h => h) (Or.inr ⟨by rfl, rfl⟩) (by assumption) ?_
          (try simp only [List.getElem_toArray, List.getElem_cons_succ, List.getElem_cons_zero, Act.put, List.setIfInBounds_toArray, List.set_cons_zero, List.set_cons_succ])
          refine wpAnyH_take (i := 6) (v := undef) rfl (by kernel_rfl) (by kernel_rfl) (by kernel_rfl) (fun _ _ _ h => h) (Or.inr ⟨by rfl, rfl⟩) (by assumption) ?_
          (try simp only [List.getElem_toArray, List.getElem_cons_succ, List.getElem_cons_zero, Act.put, List.setIfInBounds_toArray, List.set_cons_zero, List.set_cons_succ])
          refine wpAnyH_take (i := 7) (v := undef) rfl (by kernel_rfl) (by kernel_rfl) (by kernel_rfl) (fun _ _ _ h => h) (Or.inr ⟨by rfl, rfl⟩) (by assumption) ?_
          (try simp only [List.getElem_toArray, List.getElem_cons_succ, List.getElem_cons_zero, Act.put, List.setIfInBounds_toArray, List.set_cons_zero, List.set_cons_succ])
          refine wpAnyH_take (i := 8) (v := undef) rfl (by kernel_rfl) (by kernel_rfl) (by kernel_rfl) (fun _ _ _ h => h) (Or.inr ⟨by rfl, rfl⟩) (by assumption) ?_
          (try simp only [List.getElem_toArray, List.getElem_cons_succ, List.getElem_cons_zero, Act.put, List.setIfInBounds_toArray, List.set_cons_zero, List.set_cons_succ])
          refine wpAnyH_take (i := 9) (v := undef) rfl (by kernel_rfl) (by kernel_rfl) (by kernel_rfl) (fun _ _ _ h => h) (Or.inr ⟨by rfl, rfl⟩) (by assumption) ?_
          (try simp only [List.getElem_toArray, List.getElem_cons_succ, List.getElem_cons_zero, Act.put, List.setIfInBounds_toArray, List.set_cons_zero, List.set_cons_succ])
          refine wpAnyH_take (i := 10) (v := undef) rfl (by kernel_rfl) (by kernel_rfl) (by kernel_rfl) (fun _ _ _ h => h) (Or.inr ⟨by rfl, rfl⟩) (by assumption) ?_
          (try simp only [List.getElem_toArray, List.getElem_cons_succ, List.getElem_cons_zero, Act.put, List.setIfInBounds_toArray, List.set_cons_zero, List.set_cons_succ])
          refine wpAnyH_take (i := 11) (v := undef) rfl (by kernel_rfl) (by kernel_rfl) (by kernel_rfl) (fun _ _ _ h => h) (Or.inr ⟨by rfl, rfl⟩) (by assumption) ?_
          (try simp only [List.getElem_toArray, List.getElem_cons_succ, List.getElem_cons_zero, Act.put, List.setIfInBounds_toArray, List.set_cons_zero, List.set_cons_succ])
          refine wpAnyH_take (i := 12) (v := undef) rfl (by kernel_rfl) (by kernel_rfl) (by kernel_rfl) (fun _ _ _ h => h) (Or.inr ⟨by rfl, rfl⟩) (by assumption) ?_
          (try simp only [List.getElem_toArray, List.getElem_cons_succ, List.getElem_cons_zero, Act.put, List.setIfInBounds_toArray, List.set_cons_zero, List.set_cons_succ])
          refine wpAnyH_take (i := 13) (v := ?_) rfl (by kernel_rfl) (by kernel_rfl) (by kernel_rfl) (fun _ _ _ h => h) (Or.inl ⟨by rfl, ?_⟩) (by assumption) ?_
          rotate_left
          · (intro w hSw; (try dsimp only at hSw); go_simp; (try with_reducible rfl))
          (try simp only [List.getElem_toArray, List.getElem_cons_succ, List.getElem_cons_zero, Act.put, List.setIfInBounds_toArray, List.set_cons_zero, List.set_cons_succ])
          refine wpAnyH_done (by kernel_rfl) ?_ _
          refine NoPanic.normal ?_
          have x0 := b5.cell 0 _ rfl
          have x1 := b5.cell 1 _ rfl
          have x2 := b5.cell 2 _ rfl
          have x3 := b5.cell 3 _ rfl
          have x4 := b5.cell 4 _ rfl
          have x5 := b5.cell 5 _ rfl
          have hq1 : (x.cells : List Value).all (fun u => u.oneCell' && notInt u) = true := by simp [notInt, Value.oneCell', PP.cells]
          have ln1 : (rowsP []).length ≤ 100000 := by rw [rowsP_len]; decide
          have lB1 : w.heap.size ≤ v3.heap.size := G0.size
          go_wp2_with (at_builtin; refine wpList_append_row (v := .slice A9 (0) c9) (css := rowsP []) rfl _ _ rfl elem_gp w.heap.size [.bool x.s0, .slice x.A0 x.n0 x.c0, .slice x.D0 x.m0 x.e0, .bool x.s1, .slice x.A1 x.n1 x.c1, .slice x.D1 x.m1 x.e1] rfl hown rfl rfl hq1 ln1 lB1 ?_; intro v1 w3 hown1 hg1)
          have hb3 := hown.trod hg1 lB1
          have hF1 : FP w3 2 ([] ++ [x]) := (hF.own hown hg1).snoc ((firm_pq1 x _).own kx hown.2.2 hg1)
          replace hT := hT.keep hb3 hb
          replace hlt := Nat.lt_of_lt_of_le hlt hb3.size
          replace G0 := only_below G0 hb3 (Nat.le_refl _)
          replace hown1 : OwnE w3 w.heap.size 51 6 v1 (rowsP ([] ++ [x])) := by rw [← rowsP_snoc]; exact hown1
          obtain ⟨A1_, c1_, hv1, hx1, hx2⟩ := hown1.form
          rw [rowsP_len] at hv1
          subst hv1
          clear hx1 hx2 hown hF kx hg1 ln1 lB1 hq1 hb3
          go_roundw
          case rel => exact ⟨j, _, _, [] ++ [x], by rw [List.length_append]; simp only [List.length_nil, List.length_singleton] at * <;> (try omega), rfl, rfl, hown1, hF1, by rw [List.map_append]; exact HADJ.out.snoc (fun p hp => by cases hp), hT, hlt, G0⟩
          case measure => simp [intOf] <;> omega
        · obtain ⟨m, hm⟩ : ∃ m, ys.length = m + 1 := ⟨ys.length - 1, by omega⟩
          obtain ⟨y, hy⟩ : ∃ y, ys[m]? = some y := ⟨_, List.getElem?_eq_getElem (by omega)⟩
          have HM := Lib.hid hm
          have HY := Lib.hid hy
          have ky := hF y (List.mem_of_getElem? hy)
          rw [hm] at hown ⊢
          have hij : j + 1 + (m + 1) ≤ 6 := by omega
          obtain ⟨g', o', rfl, f0, f1, f2, f3, f4, f5⟩ := pp_elem hown.read hy
          clear hm hy hy0 hi
          have wm : IntKind.i64.wrap ((m : Int) + 1 - 1) = (m : Int) := by rw [Int.add_sub_cancel]; exact IntWalk.i64_in _ (by omega)
          have wm2 : IntKind.i64.wrap (m : Int) = (m : Int) := IntWalk.i64_in _ (by omega)
          have dm : (((m : Int) + 1) == 0) = false := by rw [beq_eq_false_iff_ne]; omega
          have bm : (m : Int) < (m : Int) + 1 := by omega
          by_cases he : y.pt = x.pt
          · have HE := Lib.hid he
            have hde : decide (y.pt = x.pt) = true := by simp [he]
            clear he
            have hD := drawn_below wo
            replace hF := hF.below hD
            replace kx := kx.below hD
            replace ky := ky.below hD
            replace f0 := f0.below hD
            replace f1 := f1.below hD
            replace f2 := f2.below hD
            replace f3 := f3.below hD
            replace f4 := f4.below hD
            replace f5 := f5.below hD
            replace b5 := b5.below hD
            replace hown := hown.below hD
            replace hT := hT.keep hD hlt
            replace hlt := Nat.lt_of_lt_of_le hlt hD.size
            replace G0 := only_below G0 hD G0.size
            clear hD
            refine wp_region_noPanic ?_
            refine wp_region_held_drew (S := (fun V => V.cell? ⟨g', o' + m * 6, none⟩ = some (.bool y.s0) ∧ V.cell? ⟨g', o' + m * 6 + 1, none⟩ = some (.slice y.A0 y.n0 y.c0) ∧ V.cell? ⟨g', o' + m * 6 + 2, none⟩ = some (.slice y.D0 y.m0 y.e0) ∧ V.cell? ⟨g', o' + m * 6 + 3, none⟩ = some (.bool y.s1) ∧ V.cell? ⟨g', o' + m * 6 + 4, none⟩ = some (.slice y.A1 y.n1 y.c1) ∧ V.cell? ⟨g', o' + m * 6 + 5, none⟩ = some (.slice y.D1 y.m1 y.e1) ∧ V.cell? ⟨gb, 0, none⟩ = some (.bool x.s0) ∧ V.cell? ⟨gb, 1, none⟩ = some (.slice x.A0 x.n0 x.c0) ∧ V.cell? ⟨gb, 2, none⟩ = some (.slice x.D0 x.m0 x.e0) ∧ V.cell? ⟨gb, 3, none⟩ = some (.bool x.s1) ∧ V.cell? ⟨gb, 4, none⟩ = some (.slice x.A1 x.n1 x.c1) ∧ V.cell? ⟨gb, 5, none⟩ = some (.slice x.D1 x.m1 x.e1))) (by kernel_rfl) ⟨f0.eq, f1.eq, f2.eq, f3.eq, f4.eq, f5.eq, b5.cell 0 _ rfl, b5.cell 1 _ rfl, b5.cell 2 _ rfl, b5.cell 3 _ rfl, b5.cell 4 _ rfl, b5.cell 5 _ rfl⟩ (fun hHeld => ?_)
            generalize wo.drew = v3 at hHeld hT hlt G0 hF kx ky f0 f1 f2 f3 f4 f5 b5 hown ⊢
            refine wpAnyH_take (i := 0) (v := ?_) rfl (by kernel_rfl) (by kernel_rfl) (by kernel_rfl) (fun _ _ _ h => h) (Or.inl ⟨by rfl, ?_⟩) (by assumption) ?_
            rotate_left
            · (intro w hSw; (try dsimp only at hSw); go_simp; (try with_reducible rfl))
            (try simp only [List.getElem_toArray, List.getElem_cons_zero, Act.put, List.setIfInBounds_toArray, List.set_cons_zero, List.set_cons_succ])
            refine wpAnyH_take (i := 1) (v := ?_) rfl (by kernel_rfl) (by kernel_rfl) (by kernel_rfl) (fun _ _ _ h => h) (Or.inl ⟨by rfl, ?_⟩) (by assumption) ?_
            rotate_left
            · (intro w hSw; (try dsimp only at hSw); go_simp; (try with_reducible rfl))
            (try simp only [List.getElem_toArray, List.getElem_cons_succ, List.getElem_cons_zero, Act.put, List.setIfInBounds_toArray, List.set_cons_zero, List.set_cons_succ])
            refine wpAnyH_take (i := 2) (v := ?_) rfl (by kernel_rfl) (by kernel_rfl) (by kernel_rfl) (fun _ _ _ h => h) (Or.inl ⟨by rfl, ?_⟩) (by assumption) ?_
            rotate_left
            · (intro w hSw; (try dsimp only at hSw); go_simp; (try with_reducible rfl))
            (try simp only [List.getElem_toArray, List.getElem_cons_succ, List.getElem_cons_zero, Act.put, List.setIfInBounds_toArray, List.set_cons_zero, List.set_cons_succ])
            refine wpAnyH_take (i := 3) (v := ?_) rfl (by kernel_rfl) (by kernel_rfl) (by kernel_rfl) (fun _ _ _ h => h) (Or.inl ⟨by rfl, ?_⟩) (by assumption) ?_
            rotate_left
            · (intro w hSw; (try dsimp only at hSw); go_simp; (try with_reducible rfl))
            (try simp only [List.getElem_toArray, List.getElem_cons_succ, List.getElem_cons_zero, Act.put, List.setIfInBounds_toArray, List.set_cons_zero, List.set_cons_succ])
            refine wpAnyH_take (i := 4) (v := ?_) rfl (by kernel_rfl) (by kernel_rfl) (by kernel_rfl) (fun _ _ _ h => h) (Or.inl ⟨by rfl, ?_⟩) (by assumption) ?_
            rotate_left
            · (intro w hSw; (try dsimp only at hSw); go_simp; (try with_reducible rfl))
            (try simp only [List.getElem_toArray, List.getElem_cons_succ, List.getElem_cons_zero, Act.put, List.setIfInBounds_toArray, List.set_cons_zero, List.set_cons_succ])
            refine wpAnyH_take (i := 5) (v := ?_) rfl (by kernel_rfl) (by kernel_rfl) (by kernel_rfl) (fun _ _ _ h => h) (Or.inl ⟨by rfl, ?_⟩) (by assumption) ?_
            rotate_left
            · (intro w hSw; (try dsimp only at hSw); go_simp; (try with_reducible rfl))
            (try simp only [List.getElem_toArray, List.getElem_cons_succ, List.getElem_cons_zero, Act.put, List.setIfInBounds_toArray, List.set_cons_zero, List.set_cons_succ])
            refine wpAnyH_take (i := 6) (v := ?_) rfl (by kernel_rfl) (by kernel_rfl) (by kernel_rfl) (fun _ _ _ h => h) (Or.inl ⟨by rfl, ?_⟩) (by assumption) ?_
            rotate_left
            · (intro w hSw; (try dsimp only at hSw); go_simp; (try with_reducible rfl))
            (try simp only [List.getElem_toArray, List.getElem_cons_succ, List.getElem_cons_zero, Act.put, List.setIfInBounds_toArray, List.set_cons_zero, List.set_cons_succ])
            refine wpAnyH_take (i := 7) (v := ?_) rfl (by kernel_rfl) (by kernel_rfl) (by kernel_rfl) (fun _ _ _ h => h) (Or.inl ⟨by rfl, ?_⟩) (by assumption) ?_
            rotate_left
            · (intro w hSw; (try dsimp only at hSw); go_simp; (try with_reducible rfl))
            (try simp only [List.getElem_toArray, List.getElem_cons_succ, List.getElem_cons_zero, Act.put, List.setIfInBounds_toArray, List.set_cons_zero, List.set_cons_succ])
            refine wpAnyH_take (i := 8) (v := ?_) rfl (by kernel_rfl) (by kernel_rfl) (by kernel_rfl) (fun _ _ _ h => h) (Or.inl ⟨by rfl, ?_⟩) (by assumption) ?_
            rotate_left
            · (intro w hSw; (try dsimp only at hSw); go_simp; (try with_reducible rfl))
            (try simp only [List.getElem_toArray, List.getElem_cons_succ, List.getElem_cons_zero, Act.put, List.setIfInBounds_toArray, List.set_cons_zero, List.set_cons_succ])
            refine wpAnyH_take (i := 9) (v := ?_) rfl (by kernel_rfl) (by kernel_rfl) (by kernel_rfl) (fun _ _ _ h => h) (Or.inl ⟨by rfl, ?_⟩) (by assumption) ?_
            rotate_left
            · (intro w hSw; (try dsimp only at hSw); go_simp; (try with_reducible rfl))
            (try simp only [List.getElem_toArray, List.getElem_cons_succ, List.getElem_cons_zero, Act.put, List.setIfInBounds_toArray, List.set_cons_zero, List.set_cons_succ])
            refine wpAnyH_take (i := 10) (v := ?_) rfl (by kernel_rfl) (by kernel_rfl) (by kernel_rfl) (fun _ _ _ h => h) (Or.inl ⟨by rfl, ?_⟩) (by assumption) ?_
            rotate_left
            · (intro w hSw; (try dsimp only at hSw); go_simp; (try with_reducible rfl))
            (try simp only [List.getElem_toArray, List.getElem_cons_succ, List.getElem_cons_zero, Act.put, List.setIfInBounds_toArray, List.set_cons_zero, List.set_cons_succ])
            refine wpAnyH_ready (rs := [11]) (by kernel_rfl) (by simp) (AllReadyH.cons (o := _) rfl (fun K hK => ?_) AllReadyH.nil)
            go_simp
            go_at_call 21
            refine (samepp_v ky kx (by decide) (by decide) hde).mono ?_
            rintro e wq4 ⟨rfl, hb⟩
            replace hF := hF.below hb
            replace kx := kx.below hb
            replace ky := ky.below hb
            replace f0 := f0.below hb
            replace f1 := f1.below hb
            replace f2 := f2.below hb
            replace f3 := f3.below hb
            replace f4 := f4.below hb
            replace f5 := f5.below hb
            replace b5 := b5.below hb
            replace hown := hown.below hb
            replace hT := hT.keep hb hlt
            replace hlt := Nat.lt_of_lt_of_le hlt hb.size
            replace G0 := only_below G0 hb G0.size
            clear hb
            go_wp2_with fail
            refine hK.out _ _ ⟨f0.eq, f1.eq, f2.eq, f3.eq, f4.eq, f5.eq, b5.cell 0 _ rfl, b5.cell 1 _ rfl, b5.cell 2 _ rfl, b5.cell 3 _ rfl, b5.cell 4 _ rfl, b5.cell 5 _ rfl⟩ (fun hHeld => ?_)
            clear hK K
            (try simp only [List.getElem_toArray, List.getElem_cons_succ, List.getElem_cons_zero, Act.put, List.setIfInBounds_toArray, List.set_cons_zero, List.set_cons_succ])
            refine wpAnyH_take (i := 12) (v := ?_) rfl (by kernel_rfl) (by kernel_rfl) (by kernel_rfl) (fun _ _ _ h => h) (Or.inl ⟨by rfl, ?_⟩) (by assumption) ?_
            rotate_left
            · (intro w hSw; (try dsimp only at hSw); go_simp; (try with_reducible rfl))
            (try simp only [List.getElem_toArray, List.getElem_cons_succ, List.getElem_cons_zero, Act.put, List.setIfInBounds_toArray, List.set_cons_zero, List.set_cons_succ])
            refine wpAnyH_take (i := 13) (v := ?_) rfl (by kernel_rfl) (by kernel_rfl) (by kernel_rfl) (fun _ _ _ h => h) (Or.inl ⟨by rfl, ?_⟩) (by assumption) ?_
            rotate_left
            · (intro w hSw; (try dsimp only at hSw); go_simp; (try with_reducible rfl))
            (try simp only [List.getElem_toArray, List.getElem_cons_succ, List.getElem_cons_zero, Act.put, List.setIfInBounds_toArray, List.set_cons_zero, List.set_cons_succ])
            refine wpAnyH_done (by kernel_rfl) ?_ _
            refine NoPanic.normal ?_
            clear hde ky f0 f1 f2 f3 f4 f5
            go_wp2_with fail
            go_roundw
            case rel => exact ⟨j, _, c9, ys, by rw [HM.out]; omega, rfl, by rw [HM.out], by rw [HM.out]; exact hown, hF, HADJ.out, hT, hlt, G0⟩
            case measure => simp [intOf] <;> omega
          · have HE := Lib.hid he
            have hde : decide (y.pt = x.pt) = false := by simp [he]
            clear he
            have hD := drawn_below wo
            replace hF := hF.below hD
            replace kx := kx.below hD
            replace ky := ky.below hD
            replace f0 := f0.below hD
            replace f1 := f1.below hD
            replace f2 := f2.below hD
            replace f3 := f3.below hD
            replace f4 := f4.below hD
            replace f5 := f5.below hD
            replace b5 := b5.below hD
            replace hown := hown.below hD
            replace hT := hT.keep hD hlt
            replace hlt := Nat.lt_of_lt_of_le hlt hD.size
            replace G0 := only_below G0 hD G0.size
            clear hD
            refine wp_region_noPanic ?_
            refine wp_region_held_drew (S := (fun V => V.cell? ⟨g', o' + m * 6, none⟩ = some (.bool y.s0) ∧ V.cell? ⟨g', o' + m * 6 + 1, none⟩ = some (.slice y.A0 y.n0 y.c0) ∧ V.cell? ⟨g', o' + m * 6 + 2, none⟩ = some (.slice y.D0 y.m0 y.e0) ∧ V.cell? ⟨g', o' + m * 6 + 3, none⟩ = some (.bool y.s1) ∧ V.cell? ⟨g', o' + m * 6 + 4, none⟩ = some (.slice y.A1 y.n1 y.c1) ∧ V.cell? ⟨g', o' + m * 6 + 5, none⟩ = some (.slice y.D1 y.m1 y.e1) ∧ V.cell? ⟨gb, 0, none⟩ = some (.bool x.s0) ∧ V.cell? ⟨gb, 1, none⟩ = some (.slice x.A0 x.n0 x.c0) ∧ V.cell? ⟨gb, 2, none⟩ = some (.slice x.D0 x.m0 x.e0) ∧ V.cell? ⟨gb, 3, none⟩ = some (.bool x.s1) ∧ V.cell? ⟨gb, 4, none⟩ = some (.slice x.A1 x.n1 x.c1) ∧ V.cell? ⟨gb, 5, none⟩ = some (.slice x.D1 x.m1 x.e1))) (by kernel_rfl) ⟨f0.eq, f1.eq, f2.eq, f3.eq, f4.eq, f5.eq, b5.cell 0 _ rfl, b5.cell 1 _ rfl, b5.cell 2 _ rfl, b5.cell 3 _ rfl, b5.cell 4 _ rfl, b5.cell 5 _ rfl⟩ (fun hHeld => ?_)
            generalize wo.drew = v3 at hHeld hT hlt G0 hF kx ky f0 f1 f2 f3 f4 f5 b5 hown ⊢
            refine wpAnyH_take (i := 0) (v := ?_) rfl (by kernel_rfl) (by kernel_rfl) (by kernel_rfl) (fun _ _ _ h => h) (Or.inl ⟨by rfl, ?_⟩) (by assumption) ?_
            rotate_left
            · (intro w hSw; (try dsimp only at hSw); go_simp; (try with_reducible rfl))
            (try simp only [List.getElem_toArray, List.getElem_cons_zero, Act.put, List.setIfInBounds_toArray, List.set_cons_zero, List.set_cons_succ])
            refine wpAnyH_take (i := 1) (v := ?_) rfl (by kernel_rfl) (by kernel_rfl) (by kernel_rfl) (fun _ _ _ h => h) (Or.inl ⟨by rfl, ?_⟩) (by assumption) ?_
            rotate_left
            · (intro w hSw; (try dsimp only at hSw); go_simp; (try with_reducible rfl))
            (try simp only [List.getElem_toArray, List.getElem_cons_succ, List.getElem_cons_zero, Act.put, List.setIfInBounds_toArray, List.set_cons_zero, List.set_cons_succ])
            refine wpAnyH_take (i := 2) (v := ?_) rfl (by kernel_rfl) (by kernel_rfl) (by kernel_rfl) (fun _ _ _ h => h) (Or.inl ⟨by rfl, ?_⟩) (by assumption) ?_
            rotate_left
            · (intro w hSw; (try dsimp only at hSw); go_simp; (try with_reducible rfl))
            (try simp only [List.getElem_toArray, List.getElem_cons_succ, List.getElem_cons_zero, Act.put, List.setIfInBounds_toArray, List.set_cons_zero, List.set_cons_succ])
            refine wpAnyH_take (i := 3) (v := ?_) rfl (by kernel_rfl) (by kernel_rfl) (by kernel_rfl) (fun _ _ _ h => h) (Or.inl ⟨by rfl, ?_⟩) (by assumption) ?_
            rotate_left
            · (intro w hSw; (try dsimp only at hSw); go_simp; (try with_reducible rfl))
            (try simp only [List.getElem_toArray, List.getElem_cons_succ, List.getElem_cons_zero, Act.put, List.setIfInBounds_toArray, List.set_cons_zero, List.set_cons_succ])
            refine wpAnyH_take (i := 4) (v := ?_) rfl (by kernel_rfl) (by kernel_rfl) (by kernel_rfl) (fun _ _ _ h => h) (Or.inl ⟨by rfl, ?_⟩) (by assumption) ?_
            rotate_left
            · (intro w hSw; (try dsimp only at hSw); go_simp; (try with_reducible rfl))
            (try simp only [List.getElem_toArray, List.getElem_cons_succ, List.getElem_cons_zero, Act.put, List.setIfInBounds_toArray, List.set_cons_zero, List.set_cons_succ])
            refine wpAnyH_take (i := 5) (v := ?_) rfl (by kernel_rfl) (by kernel_rfl) (by kernel_rfl) (fun _ _ _ h => h) (Or.inl ⟨by rfl, ?_⟩) (by assumption) ?_
            rotate_left
            · (intro w hSw; (try dsimp only at hSw); go_simp; (try with_reducible rfl))
            (try simp only [List.getElem_toArray, List.getElem_cons_succ, List.getElem_cons_zero, Act.put, List.setIfInBounds_toArray, List.set_cons_zero, List.set_cons_succ])
            refine wpAnyH_take (i := 6) (v := ?_) rfl (by kernel_rfl) (by kernel_rfl) (by kernel_rfl) (fun _ _ _ h => h) (Or.inl ⟨by rfl, ?_⟩) (by assumption) ?_
            rotate_left
            · (intro w hSw; (try dsimp only at hSw); go_simp; (try with_reducible rfl))
            (try simp only [List.getElem_toArray, List.getElem_cons_succ, List.getElem_cons_zero, Act.put, List.setIfInBounds_toArray, List.set_cons_zero, List.set_cons_succ])
            refine wpAnyH_take (i := 7) (v := ?_) rfl (by kernel_rfl) (by kernel_rfl) (by kernel_rfl) (fun _ _ _ h => h) (Or.inl ⟨by rfl, ?_⟩) (by assumption) ?_
            rotate_left
            · (intro w hSw; (try dsimp only at hSw); go_simp; (try with_reducible rfl))
            (try simp only [List.getElem_toArray, List.getElem_cons_succ, List.getElem_cons_zero, Act.put, List.setIfInBounds_toArray, List.set_cons_zero, List.set_cons_succ])
            refine wpAnyH_take (i := 8) (v := ?_) rfl (by kernel_rfl) (by kernel_rfl) (by kernel_rfl) (fun _ _ _ h => h) (Or.inl ⟨by rfl, ?_⟩) (by assumption) ?_
            rotate_left
            · (intro w hSw; (try dsimp only at hSw); go_simp; (try with_reducible rfl))
            (try simp only [List.getElem_toArray, List.getElem_cons_succ, List.getElem_cons_zero, Act.put, List.setIfInBounds_toArray, List.set_cons_zero, List.set_cons_succ])
            refine wpAnyH_take (i := 9) (v := ?_) rfl (by kernel_rfl) (by kernel_rfl) (by kernel_rfl) (fun _ _ _ h => h) (Or.inl ⟨by rfl, ?_⟩) (by assumption) ?_
            rotate_left
            · (intro w hSw; (try dsimp only at hSw); go_simp; (try with_reducible rfl))
            (try simp only [List.getElem_toArray, List.getElem_cons_succ, List.getElem_cons_zero, Act.put, List.setIfInBounds_toArray, List.set_cons_zero, List.set_cons_succ])
            refine wpAnyH_take (i := 10) (v := ?_) rfl (by kernel_rfl) (by kernel_rfl) (by kernel_rfl) (fun _ _ _ h => h) (Or.inl ⟨by rfl, ?_⟩) (by assumption) ?_
            rotate_left
            · (intro w hSw; (try dsimp only at hSw); go_simp; (try with_reducible rfl))
            (try simp only [List.getElem_toArray, List.getElem_cons_succ, List.getElem_cons_zero, Act.put, List.setIfInBounds_toArray, List.set_cons_zero, List.set_cons_succ])
            refine wpAnyH_ready (rs := [11]) (by kernel_rfl) (by simp) (AllReadyH.cons (o := _) rfl (fun K hK => ?_) AllReadyH.nil)
            go_simp
            go_at_call 21
            refine (samepp_v ky kx (by decide) (by decide) hde).mono ?_
            rintro e wq4 ⟨rfl, hb⟩
            replace hF := hF.below hb
            replace kx := kx.below hb
            replace ky := ky.below hb
            replace f0 := f0.below hb
            replace f1 := f1.below hb
            replace f2 := f2.below hb
            replace f3 := f3.below hb
            replace f4 := f4.below hb
            replace f5 := f5.below hb
            replace b5 := b5.below hb
            replace hown := hown.below hb
            replace hT := hT.keep hb hlt
            replace hlt := Nat.lt_of_lt_of_le hlt hb.size
            replace G0 := only_below G0 hb G0.size
            clear hb
            go_wp2_with fail
            refine hK.out _ _ ⟨f0.eq, f1.eq, f2.eq, f3.eq, f4.eq, f5.eq, b5.cell 0 _ rfl, b5.cell 1 _ rfl, b5.cell 2 _ rfl, b5.cell 3 _ rfl, b5.cell 4 _ rfl, b5.cell 5 _ rfl⟩ (fun hHeld => ?_)
            clear hK K
            (try simp only [List.getElem_toArray, List.getElem_cons_succ, List.getElem_cons_zero, Act.put, List.setIfInBounds_toArray, List.set_cons_zero, List.set_cons_succ])
            refine wpAnyH_take (i := 12) (v := ?_) rfl (by kernel_rfl) (by kernel_rfl) (by kernel_rfl) (fun _ _ _ h => h) (Or.inl ⟨by rfl, ?_⟩) (by assumption) ?_
            rotate_left
            · (intro w hSw; (try dsimp only at hSw); go_simp; (try with_reducible rfl))
            (try simp only [List.getElem_toArray, List.getElem_cons_succ, List.getElem_cons_zero, Act.put, List.setIfInBounds_toArray, List.set_cons_zero, List.set_cons_succ])
            refine wpAnyH_take (i := 13) (v := ?_) rfl (by kernel_rfl) (by kernel_rfl) (by kernel_rfl) (fun _ _ _ h => h) (Or.inl ⟨by rfl, ?_⟩) (by assumption) ?_
            rotate_left
            · (intro w hSw; (try dsimp only at hSw); go_simp; (try with_reducible rfl))
            (try simp only [List.getElem_toArray, List.getElem_cons_succ, List.getElem_cons_zero, Act.put, List.setIfInBounds_toArray, List.set_cons_zero, List.set_cons_succ])
            refine wpAnyH_done (by kernel_rfl) ?_ _
            refine NoPanic.normal ?_
            clear hde ky f0 f1 f2 f3 f4 f5
            have he := HE.out
            clear HE
            have x0 := b5.cell 0 _ rfl
            have x1 := b5.cell 1 _ rfl
            have x2 := b5.cell 2 _ rfl
            have x3 := b5.cell 3 _ rfl
            have x4 := b5.cell 4 _ rfl
            have x5 := b5.cell 5 _ rfl
            have hq1 : (x.cells : List Value).all (fun u => u.oneCell' && notInt u) = true := by simp [notInt, Value.oneCell', PP.cells]
            have ln1 : (rowsP ys).length ≤ 100000 := by rw [rowsP_len]; rw [HM.out]; omega
            have lB1 : w.heap.size ≤ wq4.heap.size := G0.size
            go_wp2_with (at_builtin; refine wpList_append_row (v := .slice (some ⟨g', o', none⟩) (m + 1) c9) (css := rowsP ys) rfl _ _ rfl elem_gp w.heap.size [.bool x.s0, .slice x.A0 x.n0 x.c0, .slice x.D0 x.m0 x.e0, .bool x.s1, .slice x.A1 x.n1 x.c1, .slice x.D1 x.m1 x.e1] rfl hown rfl rfl hq1 ln1 lB1 ?_; intro v1 w3 hown1 hg1)
            have hb3 := hown.trod hg1 lB1
            have hF1 : FP w3 2 (ys ++ [x]) := (hF.own hown hg1).snoc ((firm_pq1 x _).own kx hown.2.2 hg1)
            replace hT := hT.keep hb3 hb
            replace hlt := Nat.lt_of_lt_of_le hlt hb3.size
            replace G0 := only_below G0 hb3 (Nat.le_refl _)
            replace hown1 : OwnE w3 w.heap.size 51 6 v1 (rowsP (ys ++ [x])) := by rw [← rowsP_snoc]; exact hown1
            obtain ⟨A1_, c1_, hv1, hx1, hx2⟩ := hown1.form
            rw [rowsP_len] at hv1
            subst hv1
            clear hx1 hx2 hown hF kx hg1 ln1 lB1 hq1 hb3
            go_roundw
            case rel => exact ⟨j, _, _, ys ++ [x], by rw [List.length_append]; rw [HM.out, List.length_singleton]; omega, rfl, rfl, hown1, hF1, by rw [List.map_append]; exact HADJ.out.snoc (fun p hp => by rw [List.length_map, HM.out, Nat.add_sub_cancel, List.getElem?_map, HY.out] at hp; injection hp with hp; rw [← hp]; exact he), hT, hlt, G0⟩
            case measure => simp [intOf] <;> omega
      · obtain rfl : i = 0 := by omega
        rw [show ((0 : Nat) : Int) = 0 from rfl]
        have hR := hown.read
        clear hown hpos
        have hl : ys.length ≤ 6 := by omega
        clear hi
        go_wp2_with fail
        go_loopw [10] (fun t10 wr => ∃ (A9 : Option Addr) (c9 : Nat) (ys : List PP), ys.length ≤ 6 ∧ t10 = .slice A9 ys.length c9 ∧ ReadR wr 6 (.slice A9 ys.length c9) (rowsP ys) ∧ FP wr 2 ys ∧ AdjNe (ys.map PP.pt) ∧ Tape wr b ∧ b < wr.heap.size ∧ w.grownBy wr (some b)) (fun t10 _ => lenOf t10)
        case atStart => exact ⟨A9, c9, ys, hl, rfl, hR, hF, HADJ.out, hT, hlt, G0⟩
        case round =>
          clear hT hlt G0 hF hR hl HADJ
          obtain ⟨A9, c9, ys, hl, rfl, hR, hF, hadj, hT, hlt, G0⟩ := hrel
          have HADJ := Lib.hid hadj
          clear hadj
          rcases Nat.lt_or_ge 1 ys.length with h1 | h1
          · obtain ⟨m, hm⟩ : ∃ m, ys.length = m + 2 := ⟨ys.length - 2, by omega⟩
            obtain ⟨x, hx⟩ : ∃ y, ys[0]? = some y := ⟨_, List.getElem?_eq_getElem (by omega)⟩
            obtain ⟨y, hy⟩ : ∃ y, ys[m + 1]? = some y := ⟨_, List.getElem?_eq_getElem (by omega)⟩
            have HM := Lib.hid hm
            have HX := Lib.hid hx
            have HY := Lib.hid hy
            have kx := hF x (List.mem_of_getElem? hx)
            have ky := hF y (List.mem_of_getElem? hy)
            rw [hm] at hR ⊢
            have hij : m + 2 ≤ 6 := by omega
            obtain ⟨g, o, rfl, f0, f1, f2, f3, f4, f5⟩ := pp_elem hR hx
            obtain ⟨g', o', hA', e0, e1, e2, e3, e4, e5⟩ := pp_elem hR hy
            obtain ⟨rfl, rfl⟩ : g = g' ∧ o = o' := by injection hA' with hA'; injection hA' with h1 h2; exact ⟨h1, h2⟩
            clear hm hy hx h1 hl hA'
            simp only [Nat.zero_mul, Nat.add_zero] at f0 f1 f2 f3 f4 f5
            have hcm : m + 2 ≤ c9 ∧ c9 ≤ maxLen := by obtain ⟨_, _, _, e1, h1, h2, _⟩ := hR; injection e1 with _ e2 e3; rw [rowsP_len, HM.out] at h1; omega
            obtain ⟨hc9, hcx⟩ := hcm
            have wm : IntKind.i64.wrap ((m : Int) + 2 - 1) = (m : Int) + 1 := by rw [show (m : Int) + 2 - 1 = (m : Int) + 1 by omega]; exact IntWalk.i64_in _ (by omega)
            have wm2 : IntKind.i64.wrap ((m : Int) + 1) = (m : Int) + 1 := IntWalk.i64_in _ (by omega)
            have dm : decide ((1 : Int) < (m : Int) + 2) = true := decide_eq_true (by omega)
            have bm : (m : Int) + 1 < (m : Int) + 2 := by omega
            have bm0 : (0 : Int) < (m : Int) + 2 := by omega
            have bm1 : (0 : Int) ≤ (m : Int) + 1 := by omega
            by_cases he : x.pt = y.pt
            · have HE := Lib.hid he
              have hde : decide (x.pt = y.pt) = true := by simp [he]
              clear he
              go_upto_region 18 with fail
              have hD := drawn_below wr
              replace hF := hF.below hD
              replace hR := hR.below hD
              replace kx := kx.below hD
              replace ky := ky.below hD
              replace f0 := f0.below hD
              replace f1 := f1.below hD
              replace f2 := f2.below hD
              replace f3 := f3.below hD
              replace f4 := f4.below hD
              replace f5 := f5.below hD
              replace e0 := e0.below hD
              replace e1 := e1.below hD
              replace e2 := e2.below hD
              replace e3 := e3.below hD
              replace e4 := e4.below hD
              replace e5 := e5.below hD
              replace hT := hT.keep hD hlt
              replace hlt := Nat.lt_of_lt_of_le hlt hD.size
              replace G0 := only_below G0 hD G0.size
              clear hD
              refine wp_region_noPanic ?_
              refine wp_region_held_drew (S := (fun V => V.cell? ⟨g, o, none⟩ = some (.bool x.s0) ∧ V.cell? ⟨g, o + 1, none⟩ = some (.slice x.A0 x.n0 x.c0) ∧ V.cell? ⟨g, o + 2, none⟩ = some (.slice x.D0 x.m0 x.e0) ∧ V.cell? ⟨g, o + 3, none⟩ = some (.bool x.s1) ∧ V.cell? ⟨g, o + 4, none⟩ = some (.slice x.A1 x.n1 x.c1) ∧ V.cell? ⟨g, o + 5, none⟩ = some (.slice x.D1 x.m1 x.e1) ∧ V.cell? ⟨g, o + (m + 1) * 6, none⟩ = some (.bool y.s0) ∧ V.cell? ⟨g, o + (m + 1) * 6 + 1, none⟩ = some (.slice y.A0 y.n0 y.c0) ∧ V.cell? ⟨g, o + (m + 1) * 6 + 2, none⟩ = some (.slice y.D0 y.m0 y.e0) ∧ V.cell? ⟨g, o + (m + 1) * 6 + 3, none⟩ = some (.bool y.s1) ∧ V.cell? ⟨g, o + (m + 1) * 6 + 4, none⟩ = some (.slice y.A1 y.n1 y.c1) ∧ V.cell? ⟨g, o + (m + 1) * 6 + 5, none⟩ = some (.slice y.D1 y.m1 y.e1))) (by kernel_rfl) ⟨f0.eq, f1.eq, f2.eq, f3.eq, f4.eq, f5.eq, e0.eq, e1.eq, e2.eq, e3.eq, e4.eq, e5.eq⟩ (fun hHeld => ?_)
              generalize wr.drew = v2 at hHeld hT hlt G0 hF hR kx ky f0 f1 f2 f3 f4 f5 e0 e1 e2 e3 e4 e5 ⊢
              refine wpAnyH_take (i := 0) (v := ?_) rfl (by kernel_rfl) (by kernel_rfl) (by kernel_rfl) (fun _ _ _ h => h) (Or.inl ⟨by rfl, ?_⟩) (by assumption) ?_
              rotate_left
              · (intro w hSw; (try dsimp only at hSw); go_simp; (try with_reducible rfl))
              (try simp only [List.getElem_toArray, List.getElem_cons_zero, Act.put, List.setIfInBounds_toArray, List.set_cons_zero, List.set_cons_succ])
              refine wpAnyH_take (i := 1) (v := ?_) rfl (by kernel_rfl) (by kernel_rfl) (by kernel_rfl) (fun _ _ _ h => h) (Or.inl ⟨by rfl, ?_⟩) (by assumption) ?_
              rotate_left
              · (intro w hSw; (try dsimp only at hSw); go_simp; (try with_reducible rfl))
              (try simp only [List.getElem_toArray, List.getElem_cons_succ, List.getElem_cons_zero, Act.put, List.setIfInBounds_toArray, List.set_cons_zero, List.set_cons_succ])
              refine wpAnyH_take (i := 2) (v := ?_) rfl (by kernel_rfl) (by kernel_rfl) (by kernel_rfl) (fun _ _ _ h => h) (Or.inl ⟨by rfl, ?_⟩) (by assumption) ?_
              rotate_left
              · (intro w hSw; (try dsimp only at hSw); go_simp; (try with_reducible rfl))
              (try simp only [List.getElem_toArray, List.getElem_cons_succ, List.getElem_cons_zero, Act.put, List.setIfInBounds_toArray, List.set_cons_zero, List.set_cons_succ])
              refine wpAnyH_take (i := 3) (v := ?_) rfl (by kernel_rfl) (by kernel_rfl) (by kernel_rfl) (fun _ _ _ h => h) (Or.inl ⟨by rfl, ?_⟩) (by assumption) ?_
              rotate_left
              · (intro w hSw; (try dsimp only at hSw); go_simp; (try with_reducible rfl))
              (try simp only [List.getElem_toArray, List.getElem_cons_succ, List.getElem_cons_zero, Act.put, List.setIfInBounds_toArray, List.set_cons_zero, List.set_cons_succ])
              refine wpAnyH_take (i := 4) (v := ?_) rfl (by kernel_rfl) (by kernel_rfl) (by kernel_rfl) (fun _ _ _ h => h) (Or.inl ⟨by rfl, ?_⟩) (by assumption) ?_
              rotate_left
              · (intro w hSw; (try dsimp only at hSw); go_simp; (try with_reducible rfl))
              (try simp only [List.getElem_toArray, List.getElem_cons_succ, List.getElem_cons_zero, Act.put, List.setIfInBounds_toArray, List.set_cons_zero, List.set_cons_succ])
              refine wpAnyH_take (i := 5) (v := ?_) rfl (by kernel_rfl) (by kernel_rfl) (by kernel_rfl) (fun _ _ _ h => h) (Or.inl ⟨by rfl, ?_⟩) (by assumption) ?_
              rotate_left
              · (intro w hSw; (try dsimp only at hSw); go_simp; (try with_reducible rfl))
              (try simp only [List.getElem_toArray, List.getElem_cons_succ, List.getElem_cons_zero, Act.put, List.setIfInBounds_toArray, List.set_cons_zero, List.set_cons_succ])
              refine wpAnyH_take (i := 6) (v := ?_) rfl (by kernel_rfl) (by kernel_rfl) (by kernel_rfl) (fun _ _ _ h => h) (Or.inl ⟨by rfl, ?_⟩) (by assumption) ?_
              rotate_left
              · (intro w hSw; (try dsimp only at hSw); go_simp; (try with_reducible rfl))
              (try simp only [List.getElem_toArray, List.getElem_cons_succ, List.getElem_cons_zero, Act.put, List.setIfInBounds_toArray, List.set_cons_zero, List.set_cons_succ])
              refine wpAnyH_take (i := 7) (v := ?_) rfl (by kernel_rfl) (by kernel_rfl) (by kernel_rfl) (fun _ _ _ h => h) (Or.inl ⟨by rfl, ?_⟩) (by assumption) ?_
              rotate_left
              · (intro w hSw; (try dsimp only at hSw); go_simp; (try with_reducible rfl))
              (try simp only [List.getElem_toArray, List.getElem_cons_succ, List.getElem_cons_zero, Act.put, List.setIfInBounds_toArray, List.set_cons_zero, List.set_cons_succ])
              refine wpAnyH_take (i := 8) (v := ?_) rfl (by kernel_rfl) (by kernel_rfl) (by kernel_rfl) (fun _ _ _ h => h) (Or.inl ⟨by rfl, ?_⟩) (by assumption) ?_
              rotate_left
              · (intro w hSw; (try dsimp only at hSw); go_simp; (try with_reducible rfl))
              (try simp only [List.getElem_toArray, List.getElem_cons_succ, List.getElem_cons_zero, Act.put, List.setIfInBounds_toArray, List.set_cons_zero, List.set_cons_succ])
              refine wpAnyH_take (i := 9) (v := ?_) rfl (by kernel_rfl) (by kernel_rfl) (by kernel_rfl) (fun _ _ _ h => h) (Or.inl ⟨by rfl, ?_⟩) (by assumption) ?_
              rotate_left
              · (intro w hSw; (try dsimp only at hSw); go_simp; (try with_reducible rfl))
              (try simp only [List.getElem_toArray, List.getElem_cons_succ, List.getElem_cons_zero, Act.put, List.setIfInBounds_toArray, List.set_cons_zero, List.set_cons_succ])
              refine wpAnyH_take (i := 10) (v := ?_) rfl (by kernel_rfl) (by kernel_rfl) (by kernel_rfl) (fun _ _ _ h => h) (Or.inl ⟨by rfl, ?_⟩) (by assumption) ?_
              rotate_left
              · (intro w hSw; (try dsimp only at hSw); go_simp; (try with_reducible rfl))
              (try simp only [List.getElem_toArray, List.getElem_cons_succ, List.getElem_cons_zero, Act.put, List.setIfInBounds_toArray, List.set_cons_zero, List.set_cons_succ])
              refine wpAnyH_take (i := 11) (v := ?_) rfl (by kernel_rfl) (by kernel_rfl) (by kernel_rfl) (fun _ _ _ h => h) (Or.inl ⟨by rfl, ?_⟩) (by assumption) ?_
              rotate_left
              · (intro w hSw; (try dsimp only at hSw); go_simp; (try with_reducible rfl))
              (try simp only [List.getElem_toArray, List.getElem_cons_succ, List.getElem_cons_zero, Act.put, List.setIfInBounds_toArray, List.set_cons_zero, List.set_cons_succ])
              refine wpAnyH_take (i := 12) (v := ?_) rfl (by kernel_rfl) (by kernel_rfl) (by kernel_rfl) (fun _ _ _ h => h) (Or.inl ⟨by rfl, ?_⟩) (by assumption) ?_
              rotate_left
              · (intro w hSw; (try dsimp only at hSw); go_simp; (try with_reducible rfl))
              (try simp only [List.getElem_toArray, List.getElem_cons_succ, List.getElem_cons_zero, Act.put, List.setIfInBounds_toArray, List.set_cons_zero, List.set_cons_succ])
              refine wpAnyH_ready (rs := [13]) (by kernel_rfl) (by simp) (AllReadyH.cons (o := _) rfl (fun K hK => ?_) AllReadyH.nil)
              go_simp
              go_at_call 21
              refine (samepp_v kx ky (by decide) (by decide) hde).mono ?_
              rintro e wq3 ⟨rfl, hb⟩
              replace hF := hF.below hb
              replace hR := hR.below hb
              replace kx := kx.below hb
              replace ky := ky.below hb
              replace f0 := f0.below hb
              replace f1 := f1.below hb
              replace f2 := f2.below hb
              replace f3 := f3.below hb
              replace f4 := f4.below hb
              replace f5 := f5.below hb
              replace e0 := e0.below hb
              replace e1 := e1.below hb
              replace e2 := e2.below hb
              replace e3 := e3.below hb
              replace e4 := e4.below hb
              replace e5 := e5.below hb
              replace hT := hT.keep hb hlt
              replace hlt := Nat.lt_of_lt_of_le hlt hb.size
              replace G0 := only_below G0 hb G0.size
              clear hb
              go_wp2_with fail
              refine hK.out _ _ ⟨f0.eq, f1.eq, f2.eq, f3.eq, f4.eq, f5.eq, e0.eq, e1.eq, e2.eq, e3.eq, e4.eq, e5.eq⟩ (fun hHeld => ?_)
              clear hK K
              (try simp only [List.getElem_toArray, List.getElem_cons_succ, List.getElem_cons_zero, Act.put, List.setIfInBounds_toArray, List.set_cons_zero, List.set_cons_succ])
              refine wpAnyH_take (i := 14) (v := ?_) rfl (by kernel_rfl) (by kernel_rfl) (by kernel_rfl) (fun _ _ _ h => h) (Or.inl ⟨by rfl, ?_⟩) (by assumption) ?_
              rotate_left
              · (intro w hSw; (try dsimp only at hSw); go_simp; (try with_reducible rfl))
              (try simp only [List.getElem_toArray, List.getElem_cons_succ, List.getElem_cons_zero, Act.put, List.setIfInBounds_toArray, List.set_cons_zero, List.set_cons_succ])
              refine wpAnyH_done (by kernel_rfl) ?_ _
              refine NoPanic.normal ?_
              clear hde kx ky f0 f1 f2 f3 f4 f5 e0 e1 e2 e3 e4 e5
              have hl9 : (ys.take (m + 1)).length = m + 1 := by rw [List.length_take, HM.out]; omega
              have HL9 := Lib.hid hl9
              clear hl9
              have hR2 := part_pp hR (i := 0) (j := m + 1) (Nat.zero_le _) (by omega)
              simp only [Nat.zero_mul, Nat.add_zero, Nat.sub_zero, List.drop_zero] at hR2
              have hm9 : m + 1 ≤ c9 := by omega
              have bm2 : (m : Int) + 1 ≤ (c9 : Int) := by omega
              go_wp2_with fail
              go_roundw
              case rel => exact ⟨some ⟨g, o, none⟩, c9, ys.take (m + 1), by rw [HL9.out]; omega, by rw [HL9.out], by rw [HL9.out]; exact hR2, fun z hz => hF z (List.mem_of_mem_take hz), by rw [List.map_take]; exact HADJ.out.take _, hT, hlt, G0⟩
              case measure => simp [lenOf] <;> omega
            · have HE := Lib.hid he
              have hde : decide (x.pt = y.pt) = false := by simp [he]
              clear he
              go_upto_region 18 with fail
              have hD := drawn_below wr
              replace hF := hF.below hD
              replace hR := hR.below hD
              replace kx := kx.below hD
              replace ky := ky.below hD
              replace f0 := f0.below hD
              replace f1 := f1.below hD
              replace f2 := f2.below hD
              replace f3 := f3.below hD
              replace f4 := f4.below hD
              replace f5 := f5.below hD
              replace e0 := e0.below hD
              replace e1 := e1.below hD
              replace e2 := e2.below hD
              replace e3 := e3.below hD
              replace e4 := e4.below hD
              replace e5 := e5.below hD
              replace hT := hT.keep hD hlt
              replace hlt := Nat.lt_of_lt_of_le hlt hD.size
              replace G0 := only_below G0 hD G0.size
              clear hD
              refine wp_region_noPanic ?_
              refine wp_region_held_drew (S := (fun V => V.cell? ⟨g, o, none⟩ = some (.bool x.s0) ∧ V.cell? ⟨g, o + 1, none⟩ = some (.slice x.A0 x.n0 x.c0) ∧ V.cell? ⟨g, o + 2, none⟩ = some (.slice x.D0 x.m0 x.e0) ∧ V.cell? ⟨g, o + 3, none⟩ = some (.bool x.s1) ∧ V.cell? ⟨g, o + 4, none⟩ = some (.slice x.A1 x.n1 x.c1) ∧ V.cell? ⟨g, o + 5, none⟩ = some (.slice x.D1 x.m1 x.e1) ∧ V.cell? ⟨g, o + (m + 1) * 6, none⟩ = some (.bool y.s0) ∧ V.cell? ⟨g, o + (m + 1) * 6 + 1, none⟩ = some (.slice y.A0 y.n0 y.c0) ∧ V.cell? ⟨g, o + (m + 1) * 6 + 2, none⟩ = some (.slice y.D0 y.m0 y.e0) ∧ V.cell? ⟨g, o + (m + 1) * 6 + 3, none⟩ = some (.bool y.s1) ∧ V.cell? ⟨g, o + (m + 1) * 6 + 4, none⟩ = some (.slice y.A1 y.n1 y.c1) ∧ V.cell? ⟨g, o + (m + 1) * 6 + 5, none⟩ = some (.slice y.D1 y.m1 y.e1))) (by kernel_rfl) ⟨f0.eq, f1.eq, f2.eq, f3.eq, f4.eq, f5.eq, e0.eq, e1.eq, e2.eq, e3.eq, e4.eq, e5.eq⟩ (fun hHeld => ?_)
              generalize wr.drew = v2 at hHeld hT hlt G0 hF hR kx ky f0 f1 f2 f3 f4 f5 e0 e1 e2 e3 e4 e5 ⊢
              refine wpAnyH_take (i := 0) (v := ?_) rfl (by kernel_rfl) (by kernel_rfl) (by kernel_rfl) (fun _ _ _ h => h) (Or.inl ⟨by rfl, ?_⟩) (by assumption) ?_
              rotate_left
              · (intro w hSw; (try dsimp only at hSw); go_simp; (try with_reducible rfl))
              (try simp only [List.getElem_toArray, List.getElem_cons_zero, Act.put, List.setIfInBounds_toArray, List.set_cons_zero, List.set_cons_succ])
              refine wpAnyH_take (i := 1) (v := ?_) rfl (by kernel_rfl) (by kernel_rfl) (by kernel_rfl) (fun _ _ _ h => h) (Or.inl ⟨by rfl, ?_⟩) (by assumption) ?_
              rotate_left
              · (intro w hSw; (try dsimp only at hSw); go_simp; (try with_reducible rfl))
              (try simp only [List.getElem_toArray, List.getElem_cons_succ, List.getElem_cons_zero, Act.put, List.setIfInBounds_toArray, List.set_cons_zero, List.set_cons_succ])
              refine wpAnyH_take (i := 2) (v := ?_) rfl (by kernel_rfl) (by kernel_rfl) (by kernel_rfl) (fun _ _ _ h => h) (Or.inl ⟨by rfl, ?_⟩) (by assumption) ?_
              rotate_left
              · (intro w hSw; (try dsimp only at hSw); go_simp; (try with_reducible rfl))
              (try simp only [List.getElem_toArray, List.getElem_cons_succ, List.getElem_cons_zero, Act.put, List.setIfInBounds_toArray, List.set_cons_zero, List.set_cons_succ])
              refine wpAnyH_take (i := 3) (v := ?_) rfl (by kernel_rfl) (by kernel_rfl) (by kernel_rfl) (fun _ _ _ h => h) (Or.inl ⟨by rfl, ?_⟩) (by assumption) ?_
              rotate_left
              · (intro w hSw; (try dsimp only at hSw); go_simp; (try with_reducible rfl))
              (try simp only [List.getElem_toArray, List.getElem_cons_succ, List.getElem_cons_zero, Act.put, List.setIfInBounds_toArray, List.set_cons_zero, List.set_cons_succ])
              refine wpAnyH_take (i := 4) (v := ?_) rfl (by kernel_rfl) (by kernel_rfl) (by kernel_rfl) (fun _ _ _ h => h) (Or.inl ⟨by rfl, ?_⟩) (by assumption) ?_
              rotate_left
              · (intro w hSw; (try dsimp only at hSw); go_simp; (try with_reducible rfl))
              (try simp only [List.getElem_toArray, List.getElem_cons_succ, List.getElem_cons_zero, Act.put, List.setIfInBounds_toArray, List.set_cons_zero, List.set_cons_succ])
              refine wpAnyH_take (i := 5) (v := ?_) rfl (by kernel_rfl) (by kernel_rfl) (by kernel_rfl) (fun _ _ _ h => h) (Or.inl ⟨by rfl, ?_⟩) (by assumption) ?_
              rotate_left
              · (intro w hSw; (try dsimp only at hSw); go_simp; (try with_reducible rfl))
              (try simp only [List.getElem_toArray, List.getElem_cons_succ, List.getElem_cons_zero, Act.put, List.setIfInBounds_toArray, List.set_cons_zero, List.set_cons_succ])
              refine wpAnyH_take (i := 6) (v := ?_) rfl (by kernel_rfl) (by kernel_rfl) (by kernel_rfl) (fun _ _ _ h => h) (Or.inl ⟨by rfl, ?_⟩) (by assumption) ?_
              rotate_left
              · (intro w hSw; (try dsimp only at hSw); go_simp; (try with_reducible rfl))
              (try simp only [List.getElem_toArray, List.getElem_cons_succ, List.getElem_cons_zero, Act.put, List.setIfInBounds_toArray, List.set_cons_zero, List.set_cons_succ])
              refine wpAnyH_take (i := 7) (v := ?_) rfl (by kernel_rfl) (by kernel_rfl) (by kernel_rfl) (fun _ _ _ h => h) (Or.inl ⟨by rfl, ?_⟩) (by assumption) ?_
              rotate_left
              · (intro w hSw; (try dsimp only at hSw); go_simp; (try with_reducible rfl))
              (try simp only [List.getElem_toArray, List.getElem_cons_succ, List.getElem_cons_zero, Act.put, List.setIfInBounds_toArray, List.set_cons_zero, List.set_cons_succ])
              refine wpAnyH_take (i := 8) (v := ?_) rfl (by kernel_rfl) (by kernel_rfl) (by kernel_rfl) (fun _ _ _ h => h) (Or.inl ⟨by rfl, ?_⟩) (by assumption) ?_
              rotate_left
              · (intro w hSw; (try dsimp only at hSw); go_simp; (try with_reducible rfl))
              (try simp only [List.getElem_toArray, List.getElem_cons_succ, List.getElem_cons_zero, Act.put, List.setIfInBounds_toArray, List.set_cons_zero, List.set_cons_succ])
              refine wpAnyH_take (i := 9) (v := ?_) rfl (by kernel_rfl) (by kernel_rfl) (by kernel_rfl) (fun _ _ _ h => h) (Or.inl ⟨by rfl, ?_⟩) (by assumption) ?_
              rotate_left
              · (intro w hSw; (try dsimp only at hSw); go_simp; (try with_reducible rfl))
              (try simp only [List.getElem_toArray, List.getElem_cons_succ, List.getElem_cons_zero, Act.put, List.setIfInBounds_toArray, List.set_cons_zero, List.set_cons_succ])
              refine wpAnyH_take (i := 10) (v := ?_) rfl (by kernel_rfl) (by kernel_rfl) (by kernel_rfl) (fun _ _ _ h => h) (Or.inl ⟨by rfl, ?_⟩) (by assumption) ?_
              rotate_left
              · (intro w hSw; (try dsimp only at hSw); go_simp; (try with_reducible rfl))
              (try simp only [List.getElem_toArray, List.getElem_cons_succ, List.getElem_cons_zero, Act.put, List.setIfInBounds_toArray, List.set_cons_zero, List.set_cons_succ])
              refine wpAnyH_take (i := 11) (v := ?_) rfl (by kernel_rfl) (by kernel_rfl) (by kernel_rfl) (fun _ _ _ h => h) (Or.inl ⟨by rfl, ?_⟩) (by assumption) ?_
              rotate_left
              · (intro w hSw; (try dsimp only at hSw); go_simp; (try with_reducible rfl))
              (try simp only [List.getElem_toArray, List.getElem_cons_succ, List.getElem_cons_zero, Act.put, List.setIfInBounds_toArray, List.set_cons_zero, List.set_cons_succ])
              refine wpAnyH_take (i := 12) (v := ?_) rfl (by kernel_rfl) (by kernel_rfl) (by kernel_rfl) (fun _ _ _ h => h) (Or.inl ⟨by rfl, ?_⟩) (by assumption) ?_
              rotate_left
              · (intro w hSw; (try dsimp only at hSw); go_simp; (try with_reducible rfl))
              (try simp only [List.getElem_toArray, List.getElem_cons_succ, List.getElem_cons_zero, Act.put, List.setIfInBounds_toArray, List.set_cons_zero, List.set_cons_succ])
              refine wpAnyH_ready (rs := [13]) (by kernel_rfl) (by simp) (AllReadyH.cons (o := _) rfl (fun K hK => ?_) AllReadyH.nil)
              go_simp
              go_at_call 21
              refine (samepp_v kx ky (by decide) (by decide) hde).mono ?_
              rintro e wq3 ⟨rfl, hb⟩
              replace hF := hF.below hb
              replace hR := hR.below hb
              replace kx := kx.below hb
              replace ky := ky.below hb
              replace f0 := f0.below hb
              replace f1 := f1.below hb
              replace f2 := f2.below hb
              replace f3 := f3.below hb
              replace f4 := f4.below hb
              replace f5 := f5.below hb
              replace e0 := e0.below hb
              replace e1 := e1.below hb
              replace e2 := e2.below hb
              replace e3 := e3.below hb
              replace e4 := e4.below hb
              replace e5 := e5.below hb
              replace hT := hT.keep hb hlt
              replace hlt := Nat.lt_of_lt_of_le hlt hb.size
              replace G0 := only_below G0 hb G0.size
              clear hb
              go_wp2_with fail
              refine hK.out _ _ ⟨f0.eq, f1.eq, f2.eq, f3.eq, f4.eq, f5.eq, e0.eq, e1.eq, e2.eq, e3.eq, e4.eq, e5.eq⟩ (fun hHeld => ?_)
              clear hK K
              (try simp only [List.getElem_toArray, List.getElem_cons_succ, List.getElem_cons_zero, Act.put, List.setIfInBounds_toArray, List.set_cons_zero, List.set_cons_succ])
              refine wpAnyH_take (i := 14) (v := ?_) rfl (by kernel_rfl) (by kernel_rfl) (by kernel_rfl) (fun _ _ _ h => h) (Or.inl ⟨by rfl, ?_⟩) (by assumption) ?_
              rotate_left
              · (intro w hSw; (try dsimp only at hSw); go_simp; (try with_reducible rfl))
              (try simp only [List.getElem_toArray, List.getElem_cons_succ, List.getElem_cons_zero, Act.put, List.setIfInBounds_toArray, List.set_cons_zero, List.set_cons_succ])
              refine wpAnyH_done (by kernel_rfl) ?_ _
              refine NoPanic.normal ?_
              clear hde kx ky f0 f1 f2 f3 f4 f5 e0 e1 e2 e3 e4 e5
              go_wp2_with fail
              refine (sortedp_v hR hF (by rw [HM.out]; omega) (by decide)).mono ?_
              rintro e wq4 ⟨A', c', us, rfl, hasc, hsub, hul, hb'⟩
              replace hF := hF.below hb'
              replace hR := hR.below hb'
              replace hT := hT.keep hb' hlt
              replace hlt := Nat.lt_of_lt_of_le hlt hb'.size
              replace G0 := only_below G0 hb' G0.size
              clear hb'
              have HASC := Lib.hid hasc
              have HSUB := Lib.hid hsub
              clear hasc hsub
              rcases Nat.lt_or_ge us.length 3 with h3 | h3
              · have d3 : decide ((us.length : Int) < 3) = true := decide_eq_true (by omega)
                go_wp2_with fail
                clear hF hR
                refine (gxy_p 0 0 (by decide) (by decide) (by decide) (by decide) _).mono ?_
                rintro e wq5 ⟨p, rfl, hp, kp, hb⟩
                replace hT := hT.keep hb hlt
                replace hlt := Nat.lt_of_lt_of_le hlt hb.size
                replace G0 := only_below G0 hb G0.size
                clear hb
                go_wp2_with fail
                refine (gxy_p 2 0 (by decide) (by decide) (by decide) (by decide) _).mono ?_
                rintro e wq6 ⟨q, rfl, hq, kq, hb⟩
                replace kp := kp.below hb
                replace hT := hT.keep hb hlt
                replace hlt := Nat.lt_of_lt_of_le hlt hb.size
                replace G0 := only_below G0 hb G0.size
                clear hb
                go_wp2_with fail
                refine (gxy_p 0 2 (by decide) (by decide) (by decide) (by decide) _).mono ?_
                rintro e wq7 ⟨r, rfl, hr, kr, hb⟩
                replace kp := kp.below hb
                replace kq := kq.below hb
                replace hT := hT.keep hb hlt
                replace hlt := Nat.lt_of_lt_of_le hlt hb.size
                replace G0 := only_below G0 hb G0.size
                clear hb
                obtain ⟨Wb, hWb, bb, hbb, hsb⟩ := boxes1 wq7 #[.bool p.s0, .slice p.A0 p.n0 p.c0, .slice p.D0 p.m0 p.e0, .bool p.s1, .slice p.A1 p.n1 p.c1, .slice p.D1 p.m1 p.e1, .bool q.s0, .slice q.A0 q.n0 q.c0, .slice q.D0 q.m0 q.e0, .bool q.s1, .slice q.A1 q.n1 q.c1, .slice q.D1 q.m1 q.e1, .bool r.s0, .slice r.A0 r.n0 r.c0, .slice r.D0 r.m0 r.e0, .bool r.s1, .slice r.A1 r.n1 r.c1, .slice r.D1 r.m1 r.e1] 51
                go_wp2_with fail
                try rw [hWb]
                clear hWb hsb
                have hR : ReadR Wb 6 (.slice (some ⟨wq7.heap.size, 0, none⟩) 3 3) (rowsP [p, q, r]) := box_read (zs := [p, q, r]) bb (by show 3 ≤ maxLen; decide)
                replace kp := kp.below hbb
                replace kq := kq.below hbb
                replace kr := kr.below hbb
                replace hT := hT.keep hbb hlt
                replace hlt := Nat.lt_of_lt_of_le hlt hbb.size
                replace G0 := only_below G0 hbb G0.size
                clear hbb
                have hF : FP Wb 8 [p, q, r] := fun q hq => by
                  simp only [List.mem_cons, List.not_mem_nil, or_false] at hq
                  rcases hq with rfl | rfl | rfl
                  · exact ⟨kp.1.more (by decide), kp.2.more (by decide)⟩
                  · exact ⟨kq.1.more (by decide), kq.2.more (by decide)⟩
                  · exact ⟨kr.1.more (by decide), kr.2.more (by decide)⟩
                go_ret
                exact ⟨_, _, [p, q, r], rfl, hR, hF, ⟨by simp, by simp, by rw [stops_pt]; show stopsP [p.pt, q.pt, r.pt] = false; rw [hp, hq, hr]; exact stops3 (pt_ne (by omega)) (pt_ne (by omega)) (pt_ne (by omega)), by rw [opens_pt]; show opensP [p.pt, q.pt, r.pt] = true; rw [hp, hq, hr]; exact opens3 (pt_ne (by omega))⟩, hT, G0⟩
              · have d3 : decide ((us.length : Int) < 3) = false := decide_eq_false (by omega)
                have hul' := HM.out
                clear hul'
                go_wp2_with fail
                go_ret
                exact ⟨some ⟨g, o, none⟩, c9, ys, by rw [HM.out]; rfl, by rw [HM.out]; exact hR, hF.more (by decide), ⟨by omega, by rw [HM.out]; omega, by rw [stops_pt]; exact ring_stops HADJ.out (by rw [List.length_map, HM.out]; omega) (fun p q hp hq => by rw [List.getElem?_map, HX.out] at hp; rw [List.length_map, HM.out, show m + 2 - 1 = m + 1 from rfl, List.getElem?_map, HY.out] at hq; injection hp with hp; injection hq with hq; rw [← hp, ← hq]; exact HE.out), by rw [opens_pt]; exact opens_of (by rw [List.length_map]; omega) HASC.out.nodup HSUB.out⟩, hT, G0⟩
          · have dk : decide ((1 : Int) < (ys.length : Int)) = false := decide_eq_false (by omega)
            go_upto_region 18 with fail
            have hD := drawn_below wr
            replace hF := hF.below hD
            replace hR := hR.below hD
            replace hT := hT.keep hD hlt
            replace hlt := Nat.lt_of_lt_of_le hlt hD.size
            replace G0 := only_below G0 hD G0.size
            clear hD
            refine wp_region_noPanic ?_
            refine wp_region_held_drew (S := (fun _ => True)) (by kernel_rfl) trivial (fun hHeld => ?_)
            generalize wr.drew = v2 at hHeld hT hlt G0 hF hR ⊢
            refine wpAnyH_take (i := 0) (v := ?_) rfl (by kernel_rfl) (by kernel_rfl) (by kernel_rfl) (fun _ _ _ h => h) (Or.inl ⟨by rfl, ?_⟩) (by assumption) ?_
            rotate_left
            · (intro w hSw; (try dsimp only at hSw); go_simp; (try with_reducible rfl))
            (try simp only [List.getElem_toArray, List.getElem_cons_zero, Act.put, List.setIfInBounds_toArray, List.set_cons_zero, List.set_cons_succ])
            refine wpAnyH_take (i := 1) (v := ?_) rfl (by kernel_rfl) (by kernel_rfl) (by kernel_rfl) (fun _ _ _ h => h) (Or.inl ⟨by rfl, ?_⟩) (by assumption) ?_
            rotate_left
            · (intro w hSw; (try dsimp only at hSw); go_simp; (try with_reducible rfl))
            (try simp only [List.getElem_toArray, List.getElem_cons_succ, List.getElem_cons_zero, Act.put, List.setIfInBounds_toArray, List.set_cons_zero, List.set_cons_succ])
            refine wpAnyH_take (i := 2) (v := ?_) rfl (by kernel_rfl) (by kernel_rfl) (by kernel_rfl) (fun _ _ _ h => h) (Or.inl ⟨by rfl, ?_⟩) (by assumption) ?_
            rotate_left
            · (intro w hSw; (try dsimp only at hSw); go_simp; (try with_reducible rfl))
            (try simp only [List.getElem_toArray, List.getElem_cons_succ, List.getElem_cons_zero, Act.put, List.setIfInBounds_toArray, List.set_cons_zero, List.set_cons_succ])
            refine wpAnyH_take (i := 3) (v := ?_) rfl (by kernel_rfl) (by kernel_rfl) (by kernel_rfl) (fun _ _ _ h => h) (Or.inl ⟨by rfl, ?_⟩) (by assumption) ?_
            rotate_left
            · (intro w hSw; (try dsimp only at hSw); go_simp; (try with_reducible rfl))
            (try simp only [List.getElem_toArray, List.getElem_cons_succ, List.getElem_cons_zero, Act.put, List.setIfInBounds_toArray, List.set_cons_zero, List.set_cons_succ])
            refine wpAnyH_take (i := 4) (v := undef) rfl (by kernel_rfl) (by kernel_rfl) (by kernel_rfl) (fun _ _ _ h => h) (Or.inr ⟨by rfl, rfl⟩) (by assumption) ?_
            (try simp only [List.getElem_toArray, List.getElem_cons_succ, List.getElem_cons_zero, Act.put, List.setIfInBounds_toArray, List.set_cons_zero, List.set_cons_succ])
            refine wpAnyH_take (i := 5) (v := undef) rfl (by kernel_rfl) (by kernel_rfl) (by kernel_rfl) (fun _ _ _ h => h) (Or.inr ⟨by rfl, rfl⟩) (by assumption) ?_
            (try simp only [List.getElem_toArray, List.getElem_cons_succ, List.getElem_cons_zero, Act.put, List.setIfInBounds_toArray, List.set_cons_zero, List.set_cons_succ])
            refine wpAnyH_take (i := 6) (v := undef) rfl (by kernel_rfl) (by kernel_rfl) (by kernel_rfl) (fun _ _ _ h => h) (Or.inr ⟨by rfl, rfl⟩) (by assumption) ?_
            (try simp only [List.getElem_toArray, List.getElem_cons_succ, List.getElem_cons_zero, Act.put, List.setIfInBounds_toArray, List.set_cons_zero, List.set_cons_succ])
            refine wpAnyH_take (i := 7) (v := undef) rfl (by kernel_rfl) (by kernel_rfl) (by kernel_rfl) (fun _ _ _ h => h) (Or.inr ⟨by rfl, rfl⟩) (by assumption) ?_
            (try simp only [List.getElem_toArray, List.getElem_cons_succ, List.getElem_cons_zero, Act.put, List.setIfInBounds_toArray, List.set_cons_zero, List.set_cons_succ])
            refine wpAnyH_take (i := 8) (v := undef) rfl (by kernel_rfl) (by kernel_rfl) (by kernel_rfl) (fun _ _ _ h => h) (Or.inr ⟨by rfl, rfl⟩) (by assumption) ?_
            (try simp only [List.getElem_toArray, List.getElem_cons_succ, List.getElem_cons_zero, Act.put, List.setIfInBounds_toArray, List.set_cons_zero, List.set_cons_succ])
            refine wpAnyH_take (i := 9) (v := undef) rfl (by kernel_rfl) (by kernel_rfl) (by kernel_rfl) (fun _ _ _ h => h) (Or.inr ⟨by rfl, rfl⟩) (by assumption) ?_
            (try simp only [List.getElem_toArray, List.getElem_cons_succ, List.getElem_cons_zero, Act.put, List.setIfInBounds_toArray, List.set_cons_zero, List.set_cons_succ])
            refine wpAnyH_take (i := 10) (v := undef) rfl (by kernel_rfl) (by kernel_rfl) (by kernel_rfl) (fun _ _ _ h => h) (Or.inr ⟨by rfl, rfl⟩) (by assumption) ?_
            (try simp only [List.getElem_toArray, List.getElem_cons_succ, List.getElem_cons_zero, Act.put, List.setIfInBounds_toArray, List.set_cons_zero, List.set_cons_succ])
            refine wpAnyH_take (i := 11) (v := undef) rfl (by kernel_rfl) (by kernel_rfl) (by kernel_rfl) (fun _ _ _ h => h) (Or.inr ⟨by rfl, rfl⟩) (by assumption) ?_
            (try simp only [List.getElem_toArray, List.getElem_cons_succ, List.getElem_cons_zero, Act.put, List.setIfInBounds_toArray, List.set_cons_zero, List.set_cons_succ])
            refine wpAnyH_take (i := 12) (v := undef) rfl (by kernel_rfl) (by kernel_rfl) (by kernel_rfl) (fun _ _ _ h => h) (Or.inr ⟨by rfl, rfl⟩) (by assumption) ?_
            (try simp only [List.getElem_toArray, List.getElem_cons_succ, List.getElem_cons_zero, Act.put, List.setIfInBounds_toArray, List.set_cons_zero, List.set_cons_succ])
            refine wpAnyH_take (i := 13) (v := undef) rfl (by kernel_rfl) (by kernel_rfl) (by kernel_rfl) (fun _ _ _ h => h) (Or.inr ⟨by rfl, rfl⟩) (by assumption) ?_
            (try simp only [List.getElem_toArray, List.getElem_cons_succ, List.getElem_cons_zero, Act.put, List.setIfInBounds_toArray, List.set_cons_zero, List.set_cons_succ])
            refine wpAnyH_take (i := 14) (v := ?_) rfl (by kernel_rfl) (by kernel_rfl) (by kernel_rfl) (fun _ _ _ h => h) (Or.inl ⟨by rfl, ?_⟩) (by assumption) ?_
            rotate_left
            · (intro w hSw; (try dsimp only at hSw); go_simp; (try with_reducible rfl))
            (try simp only [List.getElem_toArray, List.getElem_cons_succ, List.getElem_cons_zero, Act.put, List.setIfInBounds_toArray, List.set_cons_zero, List.set_cons_succ])
            refine wpAnyH_done (by kernel_rfl) ?_ _
            refine NoPanic.normal ?_
            go_wp2_with fail
            refine (sortedp_v hR hF (by omega) (by decide)).mono ?_
            rintro e wq3 ⟨A', c', us, rfl, hasc, hsub, hul, hb'⟩
            replace hF := hF.below hb'
            replace hR := hR.below hb'
            replace hT := hT.keep hb' hlt
            replace hlt := Nat.lt_of_lt_of_le hlt hb'.size
            replace G0 := only_below G0 hb' G0.size
            clear hb'
            have d3 : decide ((us.length : Int) < 3) = true := decide_eq_true (by omega)
            clear hasc hsub dk HADJ
            go_wp2_with fail
            clear hF hR
            refine (gxy_p 0 0 (by decide) (by decide) (by decide) (by decide) _).mono ?_
            rintro e wq4 ⟨p, rfl, hp, kp, hb⟩
            replace hT := hT.keep hb hlt
            replace hlt := Nat.lt_of_lt_of_le hlt hb.size
            replace G0 := only_below G0 hb G0.size
            clear hb
            go_wp2_with fail
            refine (gxy_p 2 0 (by decide) (by decide) (by decide) (by decide) _).mono ?_
            rintro e wq5 ⟨q, rfl, hq, kq, hb⟩
            replace kp := kp.below hb
            replace hT := hT.keep hb hlt
            replace hlt := Nat.lt_of_lt_of_le hlt hb.size
            replace G0 := only_below G0 hb G0.size
            clear hb
            go_wp2_with fail
            refine (gxy_p 0 2 (by decide) (by decide) (by decide) (by decide) _).mono ?_
            rintro e wq6 ⟨r, rfl, hr, kr, hb⟩
            replace kp := kp.below hb
            replace kq := kq.below hb
            replace hT := hT.keep hb hlt
            replace hlt := Nat.lt_of_lt_of_le hlt hb.size
            replace G0 := only_below G0 hb G0.size
            clear hb
            obtain ⟨Wb, hWb, bb, hbb, hsb⟩ := boxes1 wq6 #[.bool p.s0, .slice p.A0 p.n0 p.c0, .slice p.D0 p.m0 p.e0, .bool p.s1, .slice p.A1 p.n1 p.c1, .slice p.D1 p.m1 p.e1, .bool q.s0, .slice q.A0 q.n0 q.c0, .slice q.D0 q.m0 q.e0, .bool q.s1, .slice q.A1 q.n1 q.c1, .slice q.D1 q.m1 q.e1, .bool r.s0, .slice r.A0 r.n0 r.c0, .slice r.D0 r.m0 r.e0, .bool r.s1, .slice r.A1 r.n1 r.c1, .slice r.D1 r.m1 r.e1] 51
            go_wp2_with fail
            try rw [hWb]
            clear hWb hsb
            have hR : ReadR Wb 6 (.slice (some ⟨wq6.heap.size, 0, none⟩) 3 3) (rowsP [p, q, r]) := box_read (zs := [p, q, r]) bb (by show 3 ≤ maxLen; decide)
            replace kp := kp.below hbb
            replace kq := kq.below hbb
            replace kr := kr.below hbb
            replace hT := hT.keep hbb hlt
            replace hlt := Nat.lt_of_lt_of_le hlt hbb.size
            replace G0 := only_below G0 hbb G0.size
            clear hbb
            have hF : FP Wb 8 [p, q, r] := fun q hq => by
              simp only [List.mem_cons, List.not_mem_nil, or_false] at hq
              rcases hq with rfl | rfl | rfl
              · exact ⟨kp.1.more (by decide), kp.2.more (by decide)⟩
              · exact ⟨kq.1.more (by decide), kq.2.more (by decide)⟩
              · exact ⟨kr.1.more (by decide), kr.2.more (by decide)⟩
            go_ret
            exact ⟨_, _, [p, q, r], rfl, hR, hF, ⟨by simp, by simp, by rw [stops_pt]; show stopsP [p.pt, q.pt, r.pt] = false; rw [hp, hq, hr]; exact stops3 (pt_ne (by omega)) (pt_ne (by omega)) (pt_ne (by omega)), by rw [opens_pt]; show opensP [p.pt, q.pt, r.pt] = true; rw [hp, hq, hr]; exact opens3 (pt_ne (by omega))⟩, hT, G0⟩
  case first =>
    intro K' HK0
    have HKX := Lib.hid HK0
    clear HK0
    by_cases h0 : r0 = 0
    · subst h0
      have d0 : ((0 : Int) == 0) = true := rfl
      go_wp2_with fail
      refine (next_any 5 (by decide) (by decide) hT).mono ?_
      rintro e wq1 ⟨ra, rfl, hra, hT', hg⟩
      replace hlt := Nat.lt_of_lt_of_le hlt hg.size
      replace G0 := only_trans G0 hg
      clear hT
      have hT := hT'
      clear hT' hg
      have wa := wsub4 (r := ra) (by omega)
      go_wp2_with fail
      refine (next_any 5 (by decide) (by decide) hT).mono ?_
      rintro e wq2 ⟨rb, rfl, hrb, hT', hg⟩
      replace hlt := Nat.lt_of_lt_of_le hlt hg.size
      replace G0 := only_trans G0 hg
      clear hT
      have hT := hT'
      clear hT' hg
      have wb := wsub4 (r := rb) (by omega)
      go_wp2_with fail
      refine (next_any 4 (by decide) (by decide) hT).mono ?_
      rintro e wq3 ⟨rc, rfl, hrc, hT', hg⟩
      replace hlt := Nat.lt_of_lt_of_le hlt hg.size
      replace G0 := only_trans G0 hg
      clear hT
      have hT := hT'
      clear hT' hg
      have w1 : IntKind.i64.wrap ((ra : Int) - 4 + 1) = (ra : Int) - 4 + 1 := IntWalk.i64_in _ (by omega)
      have w2 : IntKind.i64.wrap ((ra : Int) - 4 + 1 + (rc : Int)) = (ra : Int) - 4 + 1 + (rc : Int) := IntWalk.i64_in _ (by omega)
      go_wp2_with fail
      refine (next_any 4 (by decide) (by decide) hT).mono ?_
      rintro e wq4 ⟨rd, rfl, hrd, hT', hg⟩
      replace hlt := Nat.lt_of_lt_of_le hlt hg.size
      replace G0 := only_trans G0 hg
      clear hT
      have hT := hT'
      clear hT' hg
      have w3 : IntKind.i64.wrap ((rb : Int) - 4 + 1) = (rb : Int) - 4 + 1 := IntWalk.i64_in _ (by omega)
      have w4 : IntKind.i64.wrap ((rb : Int) - 4 + 1 + (rd : Int)) = (rb : Int) - 4 + 1 + (rd : Int) := IntWalk.i64_in _ (by omega)
      go_wp2_with fail
      refine (gxy_p ((ra : Int) - 4) ((rb : Int) - 4) (by omega) (by omega) (by omega) (by omega) _).mono ?_
      rintro e wq5 ⟨x, rfl, hx, kx, hb⟩
      replace hT := hT.keep hb hlt
      replace hlt := Nat.lt_of_lt_of_le hlt hb.size
      replace G0 := only_below G0 hb G0.size
      clear hb
      go_wp2_with fail
      refine (gxy_p ((ra : Int) - 4 + 1 + (rc : Int)) ((rb : Int) - 4) (by omega) (by omega) (by omega) (by omega) _).mono ?_
      rintro e wq6 ⟨y, rfl, hy, ky, hb⟩
      replace kx := kx.below hb
      replace hT := hT.keep hb hlt
      replace hlt := Nat.lt_of_lt_of_le hlt hb.size
      replace G0 := only_below G0 hb G0.size
      clear hb
      go_wp2_with fail
      refine (gxy_p ((ra : Int) - 4 + 1 + (rc : Int)) ((rb : Int) - 4 + 1 + (rd : Int)) (by omega) (by omega) (by omega) (by omega) _).mono ?_
      rintro e wq7 ⟨z, rfl, hz, kz, hb⟩
      replace kx := kx.below hb
      replace ky := ky.below hb
      replace hT := hT.keep hb hlt
      replace hlt := Nat.lt_of_lt_of_le hlt hb.size
      replace G0 := only_below G0 hb G0.size
      clear hb
      go_wp2_with fail
      refine (gxy_p ((ra : Int) - 4) ((rb : Int) - 4 + 1 + (rd : Int)) (by omega) (by omega) (by omega) (by omega) _).mono ?_
      rintro e wq8 ⟨t, rfl, ht, kt, hb⟩
      replace kx := kx.below hb
      replace ky := ky.below hb
      replace kz := kz.below hb
      replace hT := hT.keep hb hlt
      replace hlt := Nat.lt_of_lt_of_le hlt hb.size
      replace G0 := only_below G0 hb G0.size
      clear hb
      obtain ⟨Wb, hWb, bb, hbb, hsb⟩ := boxes1 wq8 #[.bool x.s0, .slice x.A0 x.n0 x.c0, .slice x.D0 x.m0 x.e0, .bool x.s1, .slice x.A1 x.n1 x.c1, .slice x.D1 x.m1 x.e1, .bool y.s0, .slice y.A0 y.n0 y.c0, .slice y.D0 y.m0 y.e0, .bool y.s1, .slice y.A1 y.n1 y.c1, .slice y.D1 y.m1 y.e1, .bool z.s0, .slice z.A0 z.n0 z.c0, .slice z.D0 z.m0 z.e0, .bool z.s1, .slice z.A1 z.n1 z.c1, .slice z.D1 z.m1 z.e1, .bool t.s0, .slice t.A0 t.n0 t.c0, .slice t.D0 t.m0 t.e0, .bool t.s1, .slice t.A1 t.n1 t.c1, .slice t.D1 t.m1 t.e1] 51
      go_wp2_with fail
      try rw [hWb]
      clear hWb hsb
      have hR : ReadR Wb 6 (.slice (some ⟨wq8.heap.size, 0, none⟩) 4 4) (rowsP [x, y, z, t]) := box_read (zs := [x, y, z, t]) bb (by show 4 ≤ maxLen; decide)
      replace kx := kx.below hbb
      replace ky := ky.below hbb
      replace kz := kz.below hbb
      replace kt := kt.below hbb
      replace hT := hT.keep hbb hlt
      replace hlt := Nat.lt_of_lt_of_le hlt hbb.size
      replace G0 := only_below G0 hbb G0.size
      clear hbb
      have hF : FP Wb 8 [x, y, z, t] := fun q hq => by
        simp only [List.mem_cons, List.not_mem_nil, or_false] at hq
        rcases hq with rfl | rfl | rfl | rfl
        · exact ⟨kx.1.more (by decide), kx.2.more (by decide)⟩
        · exact ⟨ky.1.more (by decide), ky.2.more (by decide)⟩
        · exact ⟨kz.1.more (by decide), kz.2.more (by decide)⟩
        · exact ⟨kt.1.more (by decide), kt.2.more (by decide)⟩
      go_ret
      exact ⟨_, _, [x, y, z, t], rfl, hR, hF, ⟨by simp, by simp, by rw [stops_pt]; show stopsP [x.pt, y.pt, z.pt, t.pt] = false; rw [hx, hy, hz, ht]; exact stops4 (pt_ne (by omega)) (pt_ne (by omega)) (pt_ne (by omega)) (pt_ne (by omega)), by rw [opens_pt]; show opensP [x.pt, y.pt, z.pt, t.pt] = true; rw [hx, hy, hz, ht]; exact opens4 (pt_ne (by omega))⟩, hT, G0⟩
    · have d0 : ((r0 : Int) == 0) = false := by rw [beq_eq_false_iff_ne]; omega
      by_cases h1 : r0 = 1
      · subst h1
        have d1 : (((1 : Nat) : Int) == 1) = true := rfl
        go_wp2_with fail
        refine (tpp_v hT hlt).mono ?_
        rintro e wq1 ⟨pi, pj, p, rfl, hp, kp, hT', hg⟩
        replace hlt := Nat.lt_of_lt_of_le hlt hg.size
        replace G0 := only_trans G0 hg
        clear hT
        have hT := hT'
        clear hT' hg
        have hgl := hlt
        obtain ⟨wo, hW, b7, hbW, hsz⟩ := boxes1 wq1 #[.bool p.s0, .slice p.A0 p.n0 p.c0, .slice p.D0 p.m0 p.e0, .bool p.s1, .slice p.A1 p.n1 p.c1, .slice p.D1 p.m1 p.e1] 51
        clear hsz hp
        replace kp := kp.below hbW
        replace hT := hT.keep hbW hlt
        replace hlt := Nat.lt_of_lt_of_le hlt hbW.size
        replace G0 := only_below G0 hbW G0.size
        go_wp2_with fail
        clear hW hbW
        obtain ⟨gp, hgp⟩ : ∃ gb, wq1.heap.size = gb := ⟨_, rfl⟩
        rw [hgp] at b7 hgl ⊢
        clear hgp
        refine (tvv_v hT hlt).mono ?_
        rintro e wq2 ⟨ui, uj, u, rfl, hu, ku, hT', hg⟩
        replace kp := kp.tape hT hg
        replace b7 := b7.other hg (by omega)
        replace hlt := Nat.lt_of_lt_of_le hlt hg.size
        replace G0 := only_trans G0 hg
        clear hT
        have hT := hT'
        clear hT' hg
        go_wp2_with fail
        refine (tvv_v hT hlt).mono ?_
        rintro e wq3 ⟨vi, vj, v, rfl, hv, kv, hT', hg⟩
        replace kp := kp.tape hT hg
        replace ku := ku.tape hT hg
        replace b7 := b7.other hg (by omega)
        replace hlt := Nat.lt_of_lt_of_le hlt hg.size
        replace G0 := only_trans G0 hg
        clear hT
        have hT := hT'
        clear hT' hg
        obtain ⟨wp, hW, b8, b9, hbW, hsz⟩ := boxes2 wq3 #[.bool u.s0, .slice u.A0 u.n0 u.c0, .slice u.D0 u.m0 u.e0, .bool u.s1, .slice u.A1 u.n1 u.c1, .slice u.D1 u.m1 u.e1] #[.bool v.s0, .slice v.A0 v.n0 v.c0, .slice v.D0 v.m0 v.e0, .bool v.s1, .slice v.A1 v.n1 v.c1, .slice v.D1 v.m1 v.e1] 51 51
        clear hsz hu hv
        replace kp := kp.below hbW
        replace ku := ku.below hbW
        replace kv := kv.below hbW
        replace b7 := b7.below hbW
        replace hT := hT.keep hbW hlt
        replace hlt := Nat.lt_of_lt_of_le hlt hbW.size
        replace G0 := only_below G0 hbW G0.size
        go_upto_region 9 with fail
        clear hW hbW
        obtain ⟨gu, hgu⟩ : ∃ gb, wq3.heap.size = gb := ⟨_, rfl⟩
        rw [hgu] at b8 b9 ⊢
        clear hgu
        have cu0 := b8.cell 0 _ rfl
        have cu1 := b8.cell 1 _ rfl
        have cu2 := b8.cell 2 _ rfl
        have cu3 := b8.cell 3 _ rfl
        have cu4 := b8.cell 4 _ rfl
        have cu5 := b8.cell 5 _ rfl
        have cv0 := b9.cell 0 _ rfl
        have cv1 := b9.cell 1 _ rfl
        have cv2 := b9.cell 2 _ rfl
        have cv3 := b9.cell 3 _ rfl
        have cv4 := b9.cell 4 _ rfl
        have cv5 := b9.cell 5 _ rfl
        go_wp2_with fail
        clear cu0 cu1 cu2 cu3 cu4 cu5 cv0 cv1 cv2 cv3 cv4 cv5
        refine (gcross_v ku.1 ku.2 kv.1 kv.2 (by decide) (by decide)).mono ?_
        rintro e wq4 ⟨s6, A6, n6, c6, D6, m6, e6, rfl, hc, hb⟩
        replace kp := kp.below hb
        replace ku := ku.below hb
        replace kv := kv.below hb
        replace b7 := b7.below hb
        replace b8 := b8.below hb
        replace b9 := b9.below hb
        replace hT := hT.keep hb hlt
        replace hlt := Nat.lt_of_lt_of_le hlt hb.size
        replace G0 := only_below G0 hb G0.size
        clear hb
        go_wp2_with fail
        obtain ⟨k, hk⟩ : ∃ k, rsg (u.q0 * v.q1 - u.q1 * v.q0) = k := ⟨_, rfl⟩
        have HK := Lib.hid hk
        refine (nqs_v hc hk).mono ?_
        rintro e wq5 ⟨rfl, hb⟩
        replace kp := kp.below hb
        replace ku := ku.below hb
        replace kv := kv.below hb
        replace hc := hc.below hb
        replace b7 := b7.below hb
        replace b8 := b8.below hb
        replace b9 := b9.below hb
        replace hT := hT.keep hb hlt
        replace hlt := Nat.lt_of_lt_of_le hlt hb.size
        replace G0 := only_below G0 hb G0.size
        clear hb
        clear hc hk
        by_cases hk0 : k = 0
        · subst hk0
          go_wp2_with fail
          exact HKX.out _ _ ⟨_, _, _, _, _, _, _, _, _, _, _, _, _, _, _, _, _, _, _, _, rfl, hT, hlt, G0⟩
        · have hd1 : (k == 0) = false := by rw [beq_eq_false_iff_ne]; exact hk0
          have hd2 : (k != 0) = true := by rw [bne, hd1]; rfl
          have HK0 := Lib.hid hk0
          clear hk0
          go_upto_region 10 with fail
          have hD := drawn_below wq5
          replace kp := kp.below hD
          replace ku := ku.below hD
          replace kv := kv.below hD
          replace b7 := b7.below hD
          replace b8 := b8.below hD
          replace b9 := b9.below hD
          replace hT := hT.keep hD hlt
          replace hlt := Nat.lt_of_lt_of_le hlt hD.size
          replace G0 := only_below G0 hD G0.size
          clear hD
          refine wp_region_noPanic ?_
          refine wp_region_held_drew (S := (fun V => V.cell? ⟨gp, 0, none⟩ = some (.bool p.s0) ∧ V.cell? ⟨gp, 1, none⟩ = some (.slice p.A0 p.n0 p.c0) ∧ V.cell? ⟨gp, 2, none⟩ = some (.slice p.D0 p.m0 p.e0) ∧ V.cell? ⟨gp, 3, none⟩ = some (.bool p.s1) ∧ V.cell? ⟨gp, 4, none⟩ = some (.slice p.A1 p.n1 p.c1) ∧ V.cell? ⟨gp, 5, none⟩ = some (.slice p.D1 p.m1 p.e1) ∧ V.cell? ⟨gu, 0, none⟩ = some (.bool u.s0) ∧ V.cell? ⟨gu, 1, none⟩ = some (.slice u.A0 u.n0 u.c0) ∧ V.cell? ⟨gu, 2, none⟩ = some (.slice u.D0 u.m0 u.e0) ∧ V.cell? ⟨gu, 3, none⟩ = some (.bool u.s1) ∧ V.cell? ⟨gu, 4, none⟩ = some (.slice u.A1 u.n1 u.c1) ∧ V.cell? ⟨gu, 5, none⟩ = some (.slice u.D1 u.m1 u.e1) ∧ V.cell? ⟨(gu + 1), 0, none⟩ = some (.bool v.s0) ∧ V.cell? ⟨(gu + 1), 1, none⟩ = some (.slice v.A0 v.n0 v.c0) ∧ V.cell? ⟨(gu + 1), 2, none⟩ = some (.slice v.D0 v.m0 v.e0) ∧ V.cell? ⟨(gu + 1), 3, none⟩ = some (.bool v.s1) ∧ V.cell? ⟨(gu + 1), 4, none⟩ = some (.slice v.A1 v.n1 v.c1) ∧ V.cell? ⟨(gu + 1), 5, none⟩ = some (.slice v.D1 v.m1 v.e1))) (by kernel_rfl) ⟨b7.cell 0 _ rfl, b7.cell 1 _ rfl, b7.cell 2 _ rfl, b7.cell 3 _ rfl, b7.cell 4 _ rfl, b7.cell 5 _ rfl, b8.cell 0 _ rfl, b8.cell 1 _ rfl, b8.cell 2 _ rfl, b8.cell 3 _ rfl, b8.cell 4 _ rfl, b8.cell 5 _ rfl, b9.cell 0 _ rfl, b9.cell 1 _ rfl, b9.cell 2 _ rfl, b9.cell 3 _ rfl, b9.cell 4 _ rfl, b9.cell 5 _ rfl⟩ (fun hHeld => ?_)
          generalize wq5.drew = v6 at hHeld hT hlt G0 kp ku kv b7 b8 b9 ⊢
          refine wpAnyH_take (i := 0) (v := ?_) rfl (by kernel_rfl) (by kernel_rfl) (by kernel_rfl) (fun _ _ _ h => h) (Or.inl ⟨by rfl, ?_⟩) (by assumption) ?_
          rotate_left
          · (intro w hSw; (try dsimp only at hSw); go_simp; (try with_reducible rfl))
          (try simp only [List.getElem_toArray, List.getElem_cons_zero, Act.put, List.setIfInBounds_toArray, List.set_cons_zero, List.set_cons_succ])
          refine wpAnyH_take (i := 1) (v := ?_) rfl (by kernel_rfl) (by kernel_rfl) (by kernel_rfl) (fun _ _ _ h => h) (Or.inl ⟨by rfl, ?_⟩) (by assumption) ?_
          rotate_left
          · (intro w hSw; (try dsimp only at hSw); go_simp; (try with_reducible rfl))
          (try simp only [List.getElem_toArray, List.getElem_cons_succ, List.getElem_cons_zero, Act.put, List.setIfInBounds_toArray, List.set_cons_zero, List.set_cons_succ])
          refine wpAnyH_take (i := 3) (v := ?_) rfl (by kernel_rfl) (by kernel_rfl) (by kernel_rfl) (fun _ _ _ h => h) (Or.inl ⟨by rfl, ?_⟩) (by assumption) ?_
          rotate_left
          · (intro w hSw; (try dsimp only at hSw); go_simp; (try with_reducible rfl))
          (try simp only [List.getElem_toArray, List.getElem_cons_succ, List.getElem_cons_zero, Act.put, List.setIfInBounds_toArray, List.set_cons_zero, List.set_cons_succ])
          refine wpAnyH_take (i := 5) (v := ?_) rfl (by kernel_rfl) (by kernel_rfl) (by kernel_rfl) (fun _ _ _ h => h) (Or.inl ⟨by rfl, ?_⟩) (by assumption) ?_
          rotate_left
          · (intro w hSw; (try dsimp only at hSw); go_simp; (try with_reducible rfl))
          (try simp only [List.getElem_toArray, List.getElem_cons_succ, List.getElem_cons_zero, Act.put, List.setIfInBounds_toArray, List.set_cons_zero, List.set_cons_succ])
          refine wpAnyH_take (i := 7) (v := ?_) rfl (by kernel_rfl) (by kernel_rfl) (by kernel_rfl) (fun _ _ _ h => h) (Or.inl ⟨by rfl, ?_⟩) (by assumption) ?_
          rotate_left
          · (intro w hSw; (try dsimp only at hSw); go_simp; (try with_reducible rfl))
          (try simp only [List.getElem_toArray, List.getElem_cons_succ, List.getElem_cons_zero, Act.put, List.setIfInBounds_toArray, List.set_cons_zero, List.set_cons_succ])
          refine wpAnyH_ready (rs := [2]) (by kernel_rfl) (by simp) (AllReadyH.cons (o := _) rfl (fun K hK => ?_) AllReadyH.nil)
          go_simp
          go_at_call 20
          refine (nof_v 1 (by decide) (by decide) _).mono ?_
          rintro e wq7 ⟨s1, A1, n1, c1, D1, m1, e1, rfl, ho, hb⟩
          replace kp := kp.below hb
          replace ku := ku.below hb
          replace kv := kv.below hb
          replace b7 := b7.below hb
          replace b8 := b8.below hb
          replace b9 := b9.below hb
          replace hT := hT.keep hb hlt
          replace hlt := Nat.lt_of_lt_of_le hlt hb.size
          replace G0 := only_below G0 hb G0.size
          clear hb
          go_wp2_with fail
          refine hK.out _ _ ⟨b7.cell 0 _ rfl, b7.cell 1 _ rfl, b7.cell 2 _ rfl, b7.cell 3 _ rfl, b7.cell 4 _ rfl, b7.cell 5 _ rfl, b8.cell 0 _ rfl, b8.cell 1 _ rfl, b8.cell 2 _ rfl, b8.cell 3 _ rfl, b8.cell 4 _ rfl, b8.cell 5 _ rfl, b9.cell 0 _ rfl, b9.cell 1 _ rfl, b9.cell 2 _ rfl, b9.cell 3 _ rfl, b9.cell 4 _ rfl, b9.cell 5 _ rfl⟩ (fun hHeld => ?_)
          clear hK K
          (try simp only [List.getElem_toArray, List.getElem_cons_succ, List.getElem_cons_zero, Act.put, List.setIfInBounds_toArray, List.set_cons_zero, List.set_cons_succ])
          refine wpAnyH_ready (rs := [4]) (by kernel_rfl) (by simp) (AllReadyH.cons (o := _) rfl (fun K hK => ?_) AllReadyH.nil)
          go_simp
          go_at_call 19
          refine (gadd_pp kp ho ku (by decide) (by decide) (by decide)).mono ?_
          rintro e wq8 ⟨q, rfl, hq, kq, hb⟩
          replace kp := kp.below hb
          replace ku := ku.below hb
          replace kv := kv.below hb
          replace ho := ho.below hb
          replace b7 := b7.below hb
          replace b8 := b8.below hb
          replace b9 := b9.below hb
          replace hT := hT.keep hb hlt
          replace hlt := Nat.lt_of_lt_of_le hlt hb.size
          replace G0 := only_below G0 hb G0.size
          clear hb
          go_wp2_with fail
          refine hK.out _ _ ⟨b7.cell 0 _ rfl, b7.cell 1 _ rfl, b7.cell 2 _ rfl, b7.cell 3 _ rfl, b7.cell 4 _ rfl, b7.cell 5 _ rfl, b8.cell 0 _ rfl, b8.cell 1 _ rfl, b8.cell 2 _ rfl, b8.cell 3 _ rfl, b8.cell 4 _ rfl, b8.cell 5 _ rfl, b9.cell 0 _ rfl, b9.cell 1 _ rfl, b9.cell 2 _ rfl, b9.cell 3 _ rfl, b9.cell 4 _ rfl, b9.cell 5 _ rfl⟩ (fun hHeld => ?_)
          clear hK K
          (try simp only [List.getElem_toArray, List.getElem_cons_succ, List.getElem_cons_zero, Act.put, List.setIfInBounds_toArray, List.set_cons_zero, List.set_cons_succ])
          refine wpAnyH_ready (rs := [6]) (by kernel_rfl) (by simp) (AllReadyH.cons (o := _) rfl (fun K hK => ?_) AllReadyH.nil)
          go_simp
          go_at_call 20
          refine (nof_v 1 (by decide) (by decide) _).mono ?_
          rintro e wq9 ⟨s2, A2, n2, c2, D2, m2, e2, rfl, ho2, hb⟩
          replace kp := kp.below hb
          replace ku := ku.below hb
          replace kv := kv.below hb
          replace ho := ho.below hb
          replace kq := kq.below hb
          replace b7 := b7.below hb
          replace b8 := b8.below hb
          replace b9 := b9.below hb
          replace hT := hT.keep hb hlt
          replace hlt := Nat.lt_of_lt_of_le hlt hb.size
          replace G0 := only_below G0 hb G0.size
          clear hb
          go_wp2_with fail
          refine hK.out _ _ ⟨b7.cell 0 _ rfl, b7.cell 1 _ rfl, b7.cell 2 _ rfl, b7.cell 3 _ rfl, b7.cell 4 _ rfl, b7.cell 5 _ rfl, b8.cell 0 _ rfl, b8.cell 1 _ rfl, b8.cell 2 _ rfl, b8.cell 3 _ rfl, b8.cell 4 _ rfl, b8.cell 5 _ rfl, b9.cell 0 _ rfl, b9.cell 1 _ rfl, b9.cell 2 _ rfl, b9.cell 3 _ rfl, b9.cell 4 _ rfl, b9.cell 5 _ rfl⟩ (fun hHeld => ?_)
          clear hK K
          (try simp only [List.getElem_toArray, List.getElem_cons_succ, List.getElem_cons_zero, Act.put, List.setIfInBounds_toArray, List.set_cons_zero, List.set_cons_succ])
          refine wpAnyH_ready (rs := [8]) (by kernel_rfl) (by simp) (AllReadyH.cons (o := _) rfl (fun K hK => ?_) AllReadyH.nil)
          go_simp
          go_at_call 19
          refine (gadd_pp kp ho2 kv (by decide) (by decide) (by decide)).mono ?_
          rintro e wq10 ⟨r, rfl, hr, kr, hb⟩
          replace kp := kp.below hb
          replace ku := ku.below hb
          replace kv := kv.below hb
          replace ho := ho.below hb
          replace kq := kq.below hb
          replace ho2 := ho2.below hb
          replace b7 := b7.below hb
          replace b8 := b8.below hb
          replace b9 := b9.below hb
          replace hT := hT.keep hb hlt
          replace hlt := Nat.lt_of_lt_of_le hlt hb.size
          replace G0 := only_below G0 hb G0.size
          clear hb
          go_wp2_with fail
          refine hK.out _ _ ⟨b7.cell 0 _ rfl, b7.cell 1 _ rfl, b7.cell 2 _ rfl, b7.cell 3 _ rfl, b7.cell 4 _ rfl, b7.cell 5 _ rfl, b8.cell 0 _ rfl, b8.cell 1 _ rfl, b8.cell 2 _ rfl, b8.cell 3 _ rfl, b8.cell 4 _ rfl, b8.cell 5 _ rfl, b9.cell 0 _ rfl, b9.cell 1 _ rfl, b9.cell 2 _ rfl, b9.cell 3 _ rfl, b9.cell 4 _ rfl, b9.cell 5 _ rfl⟩ (fun hHeld => ?_)
          clear hK K
          (try simp only [List.getElem_toArray, List.getElem_cons_succ, List.getElem_cons_zero, Act.put, List.setIfInBounds_toArray, List.set_cons_zero, List.set_cons_succ])
          refine wpAnyH_ready (rs := [9]) (by kernel_rfl) (by simp) (AllReadyH.cons (o := _) rfl (fun K hK => ?_) AllReadyH.nil)
          go_simp
          obtain ⟨W11, hW, bL, hbW, hszW11⟩ := boxes1 wq10 #[.bool p.s0, .slice p.A0 p.n0 p.c0, .slice p.D0 p.m0 p.e0, .bool p.s1, .slice p.A1 p.n1 p.c1, .slice p.D1 p.m1 p.e1, .bool q.s0, .slice q.A0 q.n0 q.c0, .slice q.D0 q.m0 q.e0, .bool q.s1, .slice q.A1 q.n1 q.c1, .slice q.D1 q.m1 q.e1, .bool r.s0, .slice r.A0 r.n0 r.c0, .slice r.D0 r.m0 r.e0, .bool r.s1, .slice r.A1 r.n1 r.c1, .slice r.D1 r.m1 r.e1] 51
          rw [hW]
          clear hW hszW11
          replace kp := kp.below hbW
          replace ku := ku.below hbW
          replace kv := kv.below hbW
          replace ho := ho.below hbW
          replace kq := kq.below hbW
          replace ho2 := ho2.below hbW
          replace kr := kr.below hbW
          replace b7 := b7.below hbW
          replace b8 := b8.below hbW
          replace b9 := b9.below hbW
          replace hT := hT.keep hbW hlt
          replace hlt := Nat.lt_of_lt_of_le hlt hbW.size
          replace G0 := only_below G0 hbW G0.size
          clear hbW
          refine hK.out _ _ ⟨b7.cell 0 _ rfl, b7.cell 1 _ rfl, b7.cell 2 _ rfl, b7.cell 3 _ rfl, b7.cell 4 _ rfl, b7.cell 5 _ rfl, b8.cell 0 _ rfl, b8.cell 1 _ rfl, b8.cell 2 _ rfl, b8.cell 3 _ rfl, b8.cell 4 _ rfl, b8.cell 5 _ rfl, b9.cell 0 _ rfl, b9.cell 1 _ rfl, b9.cell 2 _ rfl, b9.cell 3 _ rfl, b9.cell 4 _ rfl, b9.cell 5 _ rfl⟩ (fun hHeld => ?_)
          clear hK K
          (try simp only [List.getElem_toArray, List.getElem_cons_succ, List.getElem_cons_zero, Act.put, List.setIfInBounds_toArray, List.set_cons_zero, List.set_cons_succ])
          refine wpAnyH_take (i := 10) (v := ?_) rfl (by kernel_rfl) (by kernel_rfl) (by kernel_rfl) (fun _ _ _ h => h) (Or.inl ⟨by rfl, ?_⟩) (by assumption) ?_
          rotate_left
          · (intro w hSw; (try dsimp only at hSw); go_simp; (try with_reducible rfl))
          (try simp only [List.getElem_toArray, List.getElem_cons_succ, List.getElem_cons_zero, Act.put, List.setIfInBounds_toArray, List.set_cons_zero, List.set_cons_succ])
          refine wpAnyH_done (by kernel_rfl) ?_ _
          refine NoPanic.normal ?_
          have hR := box_read (zs := [p, q, r]) bL (by show 3 ≤ maxLen; decide)
          have hF : FP W11 8 [p, q, r] := fun z hz => by
            simp only [List.mem_cons, List.not_mem_nil, or_false] at hz
            rcases hz with rfl | rfl | rfl
            · exact ⟨kp.1.more (by decide), kp.2.more (by decide)⟩
            · exact ⟨kq.1.more (by decide), kq.2.more (by decide)⟩
            · exact ⟨kr.1.more (by decide), kr.2.more (by decide)⟩
          have hne : u.q0 * v.q1 - u.q1 * v.q0 ≠ 0 := rsg_ne (by rw [HK.out]; exact HK0.out)
          obtain ⟨t1, t2, t3⟩ := tri_pts (p := p) hne hq hr
          have HT1 := Lib.hid t1
          have HT2 := Lib.hid t2
          have HT3 := Lib.hid t3
          clear t1 t2 t3 hne bL b7 b8 b9 kp kq kr ku kv ho ho2 hq hr
          go_wp2_with fail
          go_ret
          exact ⟨_, _, [p, q, r], rfl, hR, hF, ⟨by simp, by simp, by rw [stops_pt]; exact stops3 HT1.out HT2.out HT3.out, by rw [opens_pt]; exact opens3 (Ne.symm HT2.out)⟩, hT, G0⟩
      · have d1 : ((r0 : Int) == 1) = false := by rw [beq_eq_false_iff_ne]; omega
        go_wp2_with fail
        exact HKX.out _ _ ⟨_, _, _, _, _, _, _, _, _, _, _, _, _, _, _, _, _, _, _, _, rfl, hT, hlt, G0⟩
end
end Go.Proofs.YthmmnmajkeoaaabGreatDoor
namespace Go.Proofs.YthmmnmajkeoaaabGreatDoor
open Go.RowKit
theorem stops_get {l : List (Rat × Rat)} (h : stopsP l = false) {i : Nat} (hi : i < l.length) : ¬ l.getD i (0, 0) = l.getD ((i + 1) % l.length) (0, 0) := by
  unfold stopsP at h
  rw [List.any_eq_false] at h
  have := h i (List.mem_range.2 hi)
  simpa using this
theorem rotP_get {zs : List PP} {m t : Nat} (hm : m ≤ zs.length) (ht : t < zs.length) : ((rotL m zs).map PP.pt).getD t (0, 0) = (zs.map PP.pt).getD ((m + t) % zs.length) (0, 0) := by
  have h0 : 0 < zs.length := by omega
  rw [List.getD_eq_getElem?_getD, rotL_get hm ht, List.getD_eq_getElem?_getD, List.getElem?_map, List.getElem?_eq_getElem (Nat.mod_lt _ h0)]
  unfold rotF
  rw [List.getD_eq_getElem?_getD, List.getElem?_eq_getElem (Nat.mod_lt _ h0)]
  rfl
theorem rot_stops {zs : List PP} {m : Nat} (hm : m ≤ zs.length) (h : stopsB zs = false) : stopsB (rotL m zs) = false := by
  rw [stops_pt] at h ⊢
  refine stops_of (fun i hi => ?_)
  rw [List.length_map, rotL_len] at hi ⊢
  have h0 : 0 < zs.length := by omega
  rw [rotP_get hm hi, rotP_get hm (Nat.mod_lt _ h0)]
  have h1 := stops_get h (i := (m + i) % zs.length) (by rw [List.length_map]; exact Nat.mod_lt _ h0)
  rw [List.length_map] at h1
  rw [show (m + (i + 1) % zs.length) % zs.length = ((m + i) % zs.length + 1) % zs.length by rw [Nat.add_mod_mod, Nat.mod_add_mod, Nat.add_assoc]]
  exact h1
theorem rot_opens {zs : List PP} {m : Nat} (hm : m ≤ zs.length) (h : opensB zs = true) : opensB (rotL m zs) = true := by
  rw [opens_pt] at h ⊢
  unfold opensP at h ⊢
  rw [List.any_eq_true] at h ⊢
  obtain ⟨i, hi, hd⟩ := h
  rw [List.length_map, List.mem_range] at hi
  have h0 : 0 < zs.length := by omega
  refine ⟨(i + (zs.length - m)) % zs.length, ?_, ?_⟩
  · rw [List.length_map, rotL_len, List.mem_range]; exact Nat.mod_lt _ h0
  · rw [List.length_map] at hd ⊢
    rw [rotL_len, rotP_get hm (Nat.mod_lt _ h0), rotP_get hm (Nat.mod_lt _ h0)]
    have e1 : (m + ((i + (zs.length - m)) % zs.length + zs.length - 1) % zs.length) % zs.length = (i + zs.length - 1) % zs.length := by
      rw [Nat.add_mod_mod, show m + ((i + (zs.length - m)) % zs.length + zs.length - 1) = (i + (zs.length - m)) % zs.length + (m + (zs.length - 1)) by omega, Nat.mod_add_mod, show i + (zs.length - m) + (m + (zs.length - 1)) = i + zs.length - 1 + zs.length by omega, Nat.add_mod_right]
    have e2 : (m + ((i + (zs.length - m)) % zs.length + 1) % zs.length) % zs.length = (i + 1) % zs.length := by
      rw [Nat.add_mod_mod, show m + ((i + (zs.length - m)) % zs.length + 1) = (i + (zs.length - m)) % zs.length + (m + 1) by omega, Nat.mod_add_mod, show i + (zs.length - m) + (m + 1) = i + 1 + zs.length by omega, Nat.add_mod_right]
    rw [e1, e2]
    exact hd
theorem rot_ok {zs : List PP} {m : Nat} (hm : m ≤ zs.length) (h : RingOk zs) : RingOk (rotL m zs) := ⟨by rw [rotL_len]; exact h.1, by rw [rotL_len]; exact h.2.1, rot_stops hm h.2.2.1, rot_opens hm h.2.2.2⟩
theorem rotF_pt {xs zs : List PP} (h : xs.map PP.pt = zs.map PP.pt) : rotF xs = rotF zs := by
  have hl : xs.length = zs.length := by have := congrArg List.length h; rwa [List.length_map, List.length_map] at this
  have key : ∀ (l : List PP) i, (l.getD i default).pt = (l.map PP.pt).getD i (default : PP).pt := fun l i => by
    rw [List.getD_eq_getElem?_getD, List.getD_eq_getElem?_getD, List.getElem?_map]
    cases l[i]? <;> rfl
  funext x
  unfold rotF
  rw [key, key, h, hl]
theorem rotL_pt {xs zs : List PP} (h : xs.map PP.pt = zs.map PP.pt) (m : Nat) : (rotL m xs).map PP.pt = (rotL m zs).map PP.pt := by
  unfold rotL
  rw [List.map_append, List.map_append, List.map_drop, List.map_drop, List.map_take, List.map_take, h]
theorem stops_same {xs zs : List PP} (h : xs.map PP.pt = zs.map PP.pt) : stopsB xs = stopsB zs := by rw [stops_pt, stops_pt, h]
theorem opens_same {xs zs : List PP} (h : xs.map PP.pt = zs.map PP.pt) : opensB xs = opensB zs := by rw [opens_pt, opens_pt, h]
theorem len_pt {xs zs : List PP} (h : xs.map PP.pt = zs.map PP.pt) : xs.length = zs.length := by have := congrArg List.length h; rwa [List.length_map, List.length_map] at this
/-- Canon's two results are the same list of points. -/
theorem canon_same {xs zs us bs : List PP} {m m' : Nat} (h : xs.map PP.pt = zs.map PP.pt) (hm : m < xs.length) (hm' : m' < zs.length) (h1 : RotMin ptLt (rotF xs) xs.length m) (h2 : RotMin ptLt (rotF zs) zs.length m') (ha : us.map PP.pt = (rotL m xs).map PP.pt) (hb : bs.map PP.pt = (rotL m' zs).map PP.pt) : us.map PP.pt = bs.map PP.pt := by
  rw [rotF_pt h, len_pt h] at h1
  rw [ha, hb, rotL_pt h]
  exact rot_eq (by rw [← len_pt h]; omega) (by omega) h1 h2
theorem wp_cut_thn {P : Program} {s : Code} {K : Act → World → Prop} {Q' : Exit → Act → World → Prop} {a : Act} {w : World} (R : Act → World → Prop) (rest : ∀ a' w', R a' w' → K a' w')
    (first : ∀ K' : Act → World → Prop, (∀ a' w', R a' w' → K' a' w') → s.wp P (Exit.then K' Q') a w) : s.wp P (Exit.then K Q') a w := first K rest
end Go.Proofs.YthmmnmajkeoaaabGreatDoor
