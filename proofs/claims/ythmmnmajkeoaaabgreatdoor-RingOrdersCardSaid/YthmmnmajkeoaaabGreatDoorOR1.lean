/-
  RefV, Floor, RatM, RatB, PtB, PtM, Shl in one text.
-/
import Derived.Test.YthmmnmajkeoaaabGreatDoorOK6
import Derived.Test.YthmmnmajkeoaaabGreatDoorOK8
import Derived.Test.YthmmnmajkeoaaabGreatDoorOK9
namespace Go.Proofs.YthmmnmajkeoaaabGreatDoor
open Go.RowKit

section
variable {A A' : Option Addr} {n n' c c' x y L L' : Nat} {w : World}
theorem nv_len (h : NV w (.slice A n c) x L) : n ≤ L := by rw [(Raw.cap h.1).1]; exact digs_length_le h.2
theorem nprod_v (hx : NV w (.slice A n c) x L) (hy : NV w (.slice A' n' c') y L') (hL : L ≤ 1000000) (hL' : L' ≤ 1000000) :
    Calls Tryz.prog 61 #[.slice A n c, .slice A' n' c'] w fun e w' => ∃ B k d, e = .returned (.slice B k d) ∧ NV w' (.slice B k d) (x * y) (L + L') ∧ Below w.heap.size w w' := by
  have h1 := nv_len hx
  have h2 := nv_len hy
  refine (nprod_is hx.1 hy.1 (by omega)).mono ?_
  rintro e w' ⟨B, k, d, rfl, hN, hb⟩
  exact ⟨B, k, d, rfl, ⟨hN, mul_lt_Bs hx.2 hy.2⟩, hb⟩
theorem ncmp_v {r : Int} (hx : NV w (.slice A n c) x L) (hy : NV w (.slice A' n' c') y L') (hr : cmpI x y = r) :
    Calls Tryz.prog 86 #[.slice A n c, .slice A' n' c'] w fun e w' => e = .returned (.int .i64 r) ∧ Below w.heap.size w w' := by
  subst hr
  refine (ncmp_is hx.1 hy.1).mono ?_
  rintro e w' ⟨rfl, j, rfl⟩
  exact ⟨rfl, below_drewN (Below.refl _ w) j⟩
theorem ndivide_v (hx : NV w (.slice A n c) x L) (hy : NV w (.slice A' n' c') y L') (hy0 : 0 < y) (hL : L ≤ 1000) :
    Calls Tryz.prog 88 #[.slice A n c, .slice A' n' c'] w fun e w' => ∃ B k d B' k' d', e = .returned (.tuple #[.slice B k d, .slice B' k' d']) ∧ NV w' (.slice B k d) (x / y) L ∧ NV w' (.slice B' k' d') (x % y) L' ∧ Below w.heap.size w w' := by
  have h1 := nv_len hx
  refine (ndivide_is hx.1 hy.1 hy0 (by omega)).mono ?_
  rintro e w' ⟨B, k, d, B', k', d', rfl, hN, hM, hb⟩
  exact ⟨B, k, d, B', k', d', rfl, ⟨hN, Nat.lt_of_le_of_lt (Nat.div_le_self _ _) hx.2⟩, ⟨hM, Nat.lt_trans (Nat.mod_lt _ hy0) hy.2⟩, hb⟩
end
end Go.Proofs.YthmmnmajkeoaaabGreatDoor
namespace Go.Proofs.YthmmnmajkeoaaabGreatDoor
open Go.RowKit
set_option maxRecDepth 100000 in
theorem none_v (w : World) : Calls Tryz.prog 87 #[] w fun e w' => ∃ B k d, e = .returned (.slice B k d) ∧ NV w' (.slice B k d) 1 1 ∧ Below w.heap.size w w' := by
  have r1 : Raw (w.alloc (.cells #[.int .u32 1] 149)) (.slice (some ⟨w.heap.size, 0, none⟩) 1 1) [1] := raw_lit w _ _ 1 _ rfl (okD_one (by decide)) rfl (by decide) rfl
  have hd : digs 1 = [1] := by rw [digs_pos (by omega), show 1 / 4294967296 = 0 from rfl, digs_zero]
  have hN : NV (w.alloc (.cells #[.int .u32 1] 149)) (.slice (some ⟨w.heap.size, 0, none⟩) 1 1) 1 1 := ⟨by unfold Num; rw [hd]; exact r1, by rw [Bs_one]; omega⟩
  have hb := below_alloc w (.cells #[.int .u32 1] 149)
  go_enter Tryz.func87, Tryz.ntmps87
  go_wp2_with fail
  go_ret
  exact ⟨_, _, _, rfl, hN, hb⟩
section
variable {A A' : Option Addr} {n n' c c' L L' y : Nat} {s : Bool} {z : Int} {w : World}
end
end Go.Proofs.YthmmnmajkeoaaabGreatDoor
namespace Go.Proofs.YthmmnmajkeoaaabGreatDoor
open Go.RowKit

/-- s, v and u (sign, absolute value of the numerator, denominator) read as q, with at most L digits each; a denominator 0 stands for the number 0. -/
def RQ (w : World) (s : Bool) (v u : Value) (q : Rat) (L : Nat) : Prop := ∃ z d, RI w s v z L ∧ RV w u d L ∧ q = mkRat z d
/-- The same in normal form. -/
def NQ (w : World) (s : Bool) (v u : Value) (q : Rat) (L : Nat) : Prop := NI w s v q.num L ∧ NV w u q.den L
/-- The denominator as the reference writes it: nothing in place of 1. -/
def pden (q : Rat) : Nat := if q.den = 1 then 0 else q.den
/-- The reference's form. -/
def PQ (w : World) (s : Bool) (v u : Value) (q : Rat) (L : Nat) : Prop := NI w s v q.num L ∧ NV w u (pden q) L
/-- The sign of a rational number. -/
def rsg (q : Rat) : Int := q.num.sign

section
variable {w w' : World} {v u : Value} {s : Bool} {q : Rat} {z : Int} {L L' : Nat}
theorem NI.more (h : NI w s v z L) (hL : L ≤ L') : NI w s v z L' := ⟨NV.more h.1 hL, h.2⟩
theorem RI.more (h : RI w s v z L) (hL : L ≤ L') : RI w s v z L' := by
  obtain ⟨x, h1, h2⟩ := h; exact ⟨x, RV.more h1 hL, h2⟩
theorem NQ.rq (h : NQ w s v u q L) : RQ w s v u q L := ⟨q.num, q.den, h.1.ri, h.2.rv, (Rat.mkRat_self q).symm⟩
theorem NQ.below (h : NQ w s v u q L) (hb : Below w.heap.size w w') : NQ w' s v u q L := ⟨h.1.below hb, h.2.below hb⟩
theorem PQ.below (h : PQ w s v u q L) (hb : Below w.heap.size w w') : PQ w' s v u q L := ⟨h.1.below hb, h.2.below hb⟩
theorem RQ.below (h : RQ w s v u q L) (hb : Below w.heap.size w w') : RQ w' s v u q L := by
  obtain ⟨z, d, h1, h2, h3⟩ := h; exact ⟨z, d, h1.below hb, h2.below hb, h3⟩
theorem NQ.more (h : NQ w s v u q L) (hL : L ≤ L') : NQ w s v u q L' := ⟨h.1.more hL, NV.more h.2 hL⟩
theorem PQ.more (h : PQ w s v u q L) (hL : L ≤ L') : PQ w s v u q L' := ⟨h.1.more hL, NV.more h.2 hL⟩
theorem RQ.flip (h : RQ w s v u q L) : RQ w (!s) v u (-q) L := by
  obtain ⟨z, d, h1, h2, h3⟩ := h
  exact ⟨-z, d, h1.flip, h2, by rw [h3, Rat.neg_mkRat]⟩
end
theorem gcd_abs_dvd (z : Int) (d : Nat) : ((Nat.gcd z.natAbs d : Nat) : Int) ∣ z := Int.ofNat_dvd_left.2 (Nat.gcd_dvd_left _ _)
theorem mk_num {z : Int} {d : Nat} (hd : d ≠ 0) : (mkRat z d).num = z / ((Nat.gcd z.natAbs d : Nat) : Int) := by
  rw [Rat.num_mkRat, if_neg hd, Nat.gcd_comm]
theorem mk_abs {z : Int} {d : Nat} (hd : d ≠ 0) : (mkRat z d).num.natAbs = z.natAbs / Nat.gcd z.natAbs d := by
  rw [mk_num hd]
  have h := gcd_abs_dvd z d
  rw [Int.natAbs_ediv_of_dvd h, Int.natAbs_natCast]
theorem mk_den {z : Int} {d : Nat} (hd : d ≠ 0) : (mkRat z d).den = d / Nat.gcd z.natAbs d := by
  rw [Rat.den_mkRat, if_neg hd, Nat.gcd_comm]
theorem mk_sg {s : Bool} {z : Int} {d : Nat} (hd : d ≠ 0) (h : z = sg s z.natAbs) : sg s (z.natAbs / Nat.gcd z.natAbs d) = (mkRat z d).num := by
  rw [← mk_abs hd]
  have hg : 0 < Nat.gcd z.natAbs d := Nat.gcd_pos_of_pos_right _ (Nat.pos_of_ne_zero hd)
  have h1 : 0 ≤ z → 0 ≤ (mkRat z d).num := fun h0 => by rw [mk_num hd]; exact Int.ediv_nonneg h0 (by omega)
  have h2 : z ≤ 0 → (mkRat z d).num ≤ 0 := fun h0 => by
    rw [mk_num hd]
    obtain ⟨k, hk⟩ := gcd_abs_dvd z d
    generalize Nat.gcd z.natAbs d = g at hg hk
    rw [hk, Int.mul_ediv_cancel_left _ (by omega)]
    rcases Int.lt_or_le 0 k with hk0 | hk0
    · have := Int.mul_pos (show (0 : Int) < (g : Int) by omega) hk0; omega
    · exact hk0
  cases s
  · rw [sg_false] at h ⊢; have := h1 (by omega); omega
  · rw [sg_true] at h ⊢; have := h2 (by omega); omega
theorem rsg_zero : rsg 0 = 0 := rfl
theorem rsg_mk {z : Int} {d : Nat} (hd : d ≠ 0) : rsg (mkRat z d) = z.sign := by
  unfold rsg
  rcases sign_cases z with ⟨h, h'⟩ | ⟨h, h'⟩ | ⟨h, h'⟩
  · rw [h']
    have := mk_sg (s := true) (z := z) hd (by rw [sg_true]; omega)
    rw [sg_true] at this
    generalize z.natAbs / Nat.gcd z.natAbs d = m at this
    have h0 : mkRat z d ≠ 0 := (Rat.mkRat_ne_zero hd).2 (by omega)
    have h1 : (mkRat z d).num ≠ 0 := fun h => h0 (Rat.num_eq_zero.1 h)
    exact Int.sign_eq_neg_one_of_neg (by omega)
  · subst h; simp
  · rw [h']
    have := mk_sg (s := false) (z := z) hd (by rw [sg_false]; omega)
    rw [sg_false] at this
    generalize z.natAbs / Nat.gcd z.natAbs d = m at this
    have h0 : mkRat z d ≠ 0 := (Rat.mkRat_ne_zero hd).2 (by omega)
    have h1 : (mkRat z d).num ≠ 0 := fun h => h0 (Rat.num_eq_zero.1 h)
    exact Int.sign_eq_one_of_pos (by omega)
theorem rsg_sub {z z' : Int} {d d' : Nat} (hd : d ≠ 0) (hd' : d' ≠ 0) : rsg (mkRat z d - mkRat z' d') = (z * d' - z' * d).sign := by
  have h : mkRat z d - mkRat z' d' = mkRat (z * d' - z' * d) (d * d') := by
    rw [Rat.sub_eq_add_neg, Rat.neg_mkRat, Rat.mkRat_add_mkRat _ _ hd hd', Int.neg_mul, ← Int.sub_eq_add_neg]
  rw [h, rsg_mk (Nat.mul_ne_zero hd hd')]
end Go.Proofs.YthmmnmajkeoaaabGreatDoor
namespace Go.Proofs.YthmmnmajkeoaaabGreatDoor
open Go.RowKit

section
variable {w w' : World} {g g' B : Nat} {cs : Array Value} {t : TypeId} {v u : Value} {s : Bool} {z : Int} {q : Rat} {x L : Nat}
theorem only_store3 (w : World) (g : Nat) (u0 u1 u2 : Value) : w.grownBy (((w.setCell ⟨g, 0, none⟩ u0).setCell ⟨g, 1, none⟩ u1).setCell ⟨g, 2, none⟩ u2) (some g) :=
  only_trans (only_store w g u0 u1) (only_setCell _ ⟨g, 2, none⟩ u2)
theorem Box.stored3 {a b c : Value} (h : Box w g #[a, b, c] t) (u0 u1 u2 : Value) : Box (((w.setCell ⟨g, 0, none⟩ u0).setCell ⟨g, 1, none⟩ u1).setCell ⟨g, 2, none⟩ u2) g #[u0, u1, u2] t := by
  have h1 : Box (w.setCell ⟨g, 0, none⟩ u0) g #[u0, b, c] t := by unfold Box; rw [heap_setCell_same w g 0 _ _ _ h]; simp
  have h2 : Box ((w.setCell ⟨g, 0, none⟩ u0).setCell ⟨g, 1, none⟩ u1) g #[u0, u1, c] t := by unfold Box; rw [heap_setCell_same _ g 1 _ _ _ h1]; simp
  unfold Box; rw [heap_setCell_same _ g 2 _ _ _ h2]; simp
theorem RV.kept (h : RV w v x L) (hb : Box w g cs t) (hc : cs.all notInt = true) (hg : w.grownBy w' (some g)) : RV w' v x L := by
  obtain ⟨ds, h1, h2, h3⟩ := h
  exact ⟨ds, Raw.keepBut h1 hg (Raw.apart h1 hb hc), h2, h3⟩
theorem NV.kept (h : NV w v x L) (hb : Box w g cs t) (hc : cs.all notInt = true) (hg : w.grownBy w' (some g)) : NV w' v x L := ⟨Raw.keepBut h.1 hg (Raw.apart h.1 hb hc), h.2⟩
theorem NI.kept (h : NI w s v z L) (hb : Box w g cs t) (hc : cs.all notInt = true) (hg : w.grownBy w' (some g)) : NI w' s v z L := ⟨h.1.kept hb hc hg, h.2⟩
theorem RI.kept (h : RI w s v z L) (hb : Box w g cs t) (hc : cs.all notInt = true) (hg : w.grownBy w' (some g)) : RI w' s v z L := by
  obtain ⟨x, h1, h2⟩ := h; exact ⟨x, h1.kept hb hc hg, h2⟩
theorem NQ.kept (h : NQ w s v u q L) (hb : Box w g cs t) (hc : cs.all notInt = true) (hg : w.grownBy w' (some g)) : NQ w' s v u q L := ⟨h.1.kept hb hc hg, h.2.kept hb hc hg⟩
theorem PQ.kept (h : PQ w s v u q L) (hb : Box w g cs t) (hc : cs.all notInt = true) (hg : w.grownBy w' (some g)) : PQ w' s v u q L := ⟨h.1.kept hb hc hg, h.2.kept hb hc hg⟩
theorem RQ.kept (h : RQ w s v u q L) (hb : Box w g cs t) (hc : cs.all notInt = true) (hg : w.grownBy w' (some g)) : RQ w' s v u q L := by
  obtain ⟨z, d, h1, h2, h3⟩ := h; exact ⟨z, d, h1.kept hb hc hg, h2.kept hb hc hg, h3⟩
theorem below_only {w0 : World} (h : Below B w0 w) (hg : w.grownBy w' (some g)) (hB : B ≤ g) (hs : B ≤ w.heap.size) : Below B w0 w' := h.grown hg hs (by rintro k hk; injection hk with hk; omega)
end
theorem info_rat : (Tryz.prog.info? 63).map (·.size) = some 3 := by kernel_rfl
theorem info_numq : (Tryz.prog.info? 49).map (·.size) = some 3 := by kernel_rfl
theorem ret_rat {fn : Func} {p : Tmp} (h : fn.results = #[.cell p 63]) {tmps : Array Value} {w : World} {g : Nat} {a b c : Value} {t : TypeId} (hp : tmps.getD p undef = .pointer (some ⟨g, 0, none⟩)) (hb : Box w g #[a, b, c] t) :
    (results fn tmps).run Tryz.prog w = .ok (.agg #[a, b, c]) w :=
  results_cell_row h tmps w g t #[a, b, c] (0, 0) _ hp hb Tryz.underlying63 rfl info_rat
theorem ret_numq {fn : Func} {p : Tmp} (h : fn.results = #[.cell p 49]) {tmps : Array Value} {w : World} {g : Nat} {a b c : Value} {t : TypeId} (hp : tmps.getD p undef = .pointer (some ⟨g, 0, none⟩)) (hb : Box w g #[a, b, c] t) :
    (results fn tmps).run Tryz.prog w = .ok (.agg #[a, b, c]) w :=
  results_cell_row h tmps w g t #[a, b, c] (0, 0) _ hp hb Tryz.underlying49 rfl info_numq
theorem ret_rat_b {fn : Func} {p q : Tmp} (h : fn.results = #[.cell p 63, .tmp q]) {tmps : Array Value} {w : World} {g : Nat} {a b c : Value} {t : TypeId} (hp : tmps.getD p undef = .pointer (some ⟨g, 0, none⟩)) (hb : Box w g #[a, b, c] t) :
    (results fn tmps).run Tryz.prog w = .ok (.tuple #[.agg #[a, b, c], tmps.getD q undef]) w := by
  have hp' : tmps[p]?.getD undef = .pointer (some ⟨g, 0, none⟩) := by simpa using hp
  have h1 := run_loadVar_row (P := Tryz.prog) w g t 63 #[a, b, c] (0, 0) _ hb Tryz.underlying63 rfl info_rat
  simp [results, h, hp', asAddr, h1]
end Go.Proofs.YthmmnmajkeoaaabGreatDoor
namespace Go.Proofs.YthmmnmajkeoaaabGreatDoor
open Go.RowKit

section
variable {w w' : World} {g g' B : Nat} {cs : Array Value} {t : TypeId}
theorem only_store6 (w : World) (g : Nat) (u0 u1 u2 u3 u4 u5 : Value) : w.grownBy ((((((w.setCell ⟨g, 0, none⟩ u0).setCell ⟨g, 1, none⟩ u1).setCell ⟨g, 2, none⟩ u2).setCell ⟨g, 3, none⟩ u3).setCell ⟨g, 4, none⟩ u4).setCell ⟨g, 5, none⟩ u5) (some g) :=
  only_trans (only_trans (only_trans (only_store3 w g u0 u1 u2) (only_setCell _ ⟨g, 3, none⟩ u3)) (only_setCell _ ⟨g, 4, none⟩ u4)) (only_setCell _ ⟨g, 5, none⟩ u5)
theorem Box.put1 {a0 a1 a2 a3 a4 a5 : Value} (h : Box w g #[a0, a1, a2, a3, a4, a5] t) (u : Value) : Box (w.setCell ⟨g, 1, none⟩ u) g #[a0, u, a2, a3, a4, a5] t := by
  unfold Box; rw [heap_setCell_same w g 1 _ _ _ h]; simp
theorem Box.put2 {a0 a1 a2 a3 a4 a5 : Value} (h : Box w g #[a0, a1, a2, a3, a4, a5] t) (u : Value) : Box (w.setCell ⟨g, 2, none⟩ u) g #[a0, a1, u, a3, a4, a5] t := by
  unfold Box; rw [heap_setCell_same w g 2 _ _ _ h]; simp
theorem Box.stored3hi {a0 a1 a2 a3 a4 a5 : Value} (h : Box w g #[a0, a1, a2, a3, a4, a5] t) (u3 u4 u5 : Value) : Box (((w.setCell ⟨g, 3, none⟩ u3).setCell ⟨g, 4, none⟩ u4).setCell ⟨g, 5, none⟩ u5) g #[a0, a1, a2, u3, u4, u5] t := by
  have h1 : Box (w.setCell ⟨g, 3, none⟩ u3) g #[a0, a1, a2, u3, a4, a5] t := by unfold Box; rw [heap_setCell_same w g 3 _ _ _ h]; simp
  have h2 : Box ((w.setCell ⟨g, 3, none⟩ u3).setCell ⟨g, 4, none⟩ u4) g #[a0, a1, a2, u3, u4, a5] t := by unfold Box; rw [heap_setCell_same _ g 4 _ _ _ h1]; simp
  unfold Box; rw [heap_setCell_same _ g 5 _ _ _ h2]; simp
theorem Box.stored6 {a0 a1 a2 a3 a4 a5 : Value} (h : Box w g #[a0, a1, a2, a3, a4, a5] t) (u0 u1 u2 u3 u4 u5 : Value) : Box ((((((w.setCell ⟨g, 0, none⟩ u0).setCell ⟨g, 1, none⟩ u1).setCell ⟨g, 2, none⟩ u2).setCell ⟨g, 3, none⟩ u3).setCell ⟨g, 4, none⟩ u4).setCell ⟨g, 5, none⟩ u5) g #[u0, u1, u2, u3, u4, u5] t := by
  have h0 : Box (w.setCell ⟨g, 0, none⟩ u0) g #[u0, a1, a2, a3, a4, a5] t := by unfold Box; rw [heap_setCell_same w g 0 _ _ _ h]; simp
  exact ((h0.put1 u1).put2 u2).stored3hi u3 u4 u5
end
theorem info_point : (Tryz.prog.info? 65).map (·.size) = some 6 := by kernel_rfl
theorem info_geop : (Tryz.prog.info? 51).map (·.size) = some 6 := by kernel_rfl
theorem ret_point {fn : Func} {p : Tmp} (h : fn.results = #[.cell p 65]) {tmps : Array Value} {w : World} {g : Nat} {a0 a1 a2 a3 a4 a5 : Value} {t : TypeId} (hp : tmps.getD p undef = .pointer (some ⟨g, 0, none⟩)) (hb : Box w g #[a0, a1, a2, a3, a4, a5] t) :
    (results fn tmps).run Tryz.prog w = .ok (.agg #[a0, a1, a2, a3, a4, a5]) w :=
  results_cell_row h tmps w g t #[a0, a1, a2, a3, a4, a5] (0, 0) _ hp hb Tryz.underlying65 rfl info_point
theorem ret_geop {fn : Func} {p : Tmp} (h : fn.results = #[.cell p 51]) {tmps : Array Value} {w : World} {g : Nat} {a0 a1 a2 a3 a4 a5 : Value} {t : TypeId} (hp : tmps.getD p undef = .pointer (some ⟨g, 0, none⟩)) (hb : Box w g #[a0, a1, a2, a3, a4, a5] t) :
    (results fn tmps).run Tryz.prog w = .ok (.agg #[a0, a1, a2, a3, a4, a5]) w :=
  results_cell_row h tmps w g t #[a0, a1, a2, a3, a4, a5] (0, 0) _ hp hb Tryz.underlying51 rfl info_geop
end Go.Proofs.YthmmnmajkeoaaabGreatDoor
namespace Go.Proofs.YthmmnmajkeoaaabGreatDoor
open Go.RowKit

theorem rsg_pos {a : Rat} (h : 0 < a) : rsg a = 1 := by
  unfold rsg
  have h1 : 0 ≤ a.num := Rat.num_nonneg.2 (by grind)
  rcases Int.lt_or_eq_of_le h1 with h2 | h2
  · exact Int.sign_eq_one_of_pos h2
  · have h3 : a = 0 := Rat.num_eq_zero.1 h2.symm
    grind
theorem rsg_neg' {a : Rat} (h : a < 0) : rsg a = -1 := by
  unfold rsg
  exact Int.sign_eq_neg_one_of_neg (Int.not_le.1 (fun h2 => absurd (Rat.num_nonneg.1 h2) (Rat.not_le.2 h)))
theorem rsg_zer {a : Rat} (h : a = 0) : rsg a = 0 := by subst h; rfl
theorem rat_tri (a b : Rat) : a < b ∨ a = b ∨ b < a := by grind
theorem rsg_cases (a : Rat) : (rsg a = 1 ∧ 0 < a) ∨ (rsg a = 0 ∧ a = 0) ∨ (rsg a = -1 ∧ a < 0) := by
  rcases rat_tri a 0 with h | h | h
  · exact .inr (.inr ⟨rsg_neg' h, h⟩)
  · exact .inr (.inl ⟨rsg_zer h, h⟩)
  · exact .inl ⟨rsg_pos h, h⟩
def cmpQ (x y x' y' : Rat) : Int := if rsg (x - x') = 0 then rsg (y - y') else rsg (x - x')
theorem rsg_zero_iff {a : Rat} : rsg a = 0 ↔ a = 0 := by
  rcases rsg_cases a with ⟨e, h⟩ | ⟨e, h⟩ | ⟨e, h⟩ <;> rw [e] <;> constructor <;> intro k
  all_goals first | omega | grind
/-- A small vector. -/
def SV (x y : Int) : Prop := -4 ≤ x ∧ x ≤ 4 ∧ -4 ≤ y ∧ y ≤ 4
end Go.Proofs.YthmmnmajkeoaaabGreatDoor
namespace Go.Proofs.YthmmnmajkeoaaabGreatDoor
open Go.RowKit
section
variable {A : Option Addr} {n c x L : Nat} {w : World}
set_option maxRecDepth 100000 in
theorem shl_v (hx : RV w (.slice A n c) x L) (hL : L ≤ 1000000) (k : Nat) (hk : k ≤ 5000) :
    Calls Tryz.prog 79 #[.slice A n c, .int .u64 (k : Int)] w fun e w' => ∃ B m d, e = .returned (.slice B m d) ∧ NV w' (.slice B m d) (x * 2 ^ k) (L + 200) ∧ Below w.heap.size w w' := by
  have hb : x * 2 ^ k < Bs (L + 200) := by
    have h1 := hx.lt
    have hk2 : k ≤ 32 * 200 := by omega
    have h2 : 2 ^ k ≤ Bs 200 := pow_le_Bs hk2
    rw [Bs_add]
    exact Nat.lt_of_lt_of_le (Nat.mul_lt_mul_of_pos_right h1 (Nat.pow_pos (by omega))) (Nat.mul_le_mul_left _ h2)
  obtain ⟨ds, h1, h2, h3⟩ := hx
  have hmin : ∀ W : World, (Builtin.min_ #[126, 126] 126 #[.int .u64 (k : Int), .int .u64 1048576]).run Tryz.prog W = .ok (.int .u64 (k : Int)) W := fun W => by
    rw [run_min_int2]; congr 2; split <;> omega
  have HB := Lib.hid hb
  have HS := Lib.hid (shl_is h1 (Lib.hid h2) k (by omega) (by omega))
  clear hb h2
  go_enter Tryz.func79, Tryz.ntmps79
  go_wp2_with fail
  refine HS.out.mono ?_
  rintro e w' ⟨B, m, d, rfl, hN, hbl⟩
  go_wp2_with fail
  go_ret
  exact ⟨_, _, _, rfl, ⟨hN, HB.out⟩, hbl⟩
end
end Go.Proofs.YthmmnmajkeoaaabGreatDoor
