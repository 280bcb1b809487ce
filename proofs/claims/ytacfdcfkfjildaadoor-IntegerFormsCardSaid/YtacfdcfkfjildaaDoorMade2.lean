/-
  SameI; Format of small integers; the chapter's first example.
-/
import Derived.Test.YtacfdcfkfjildaaDoorMade
namespace Go.Proofs.YtacfdcfkfjildaaDoor
open Go.RowKit

set_option maxRecDepth 100000 in
theorem sameI_v {A A' : Option Addr} {n n' c c' L L' : Nat} {s s' : Bool} {z z' : Int} {w : World} (h : NI w s (.slice A n c) z L) (h' : NI w s' (.slice A' n' c') z' L') (he : z = z') :
    Calls Tryd.prog 70 #[.agg #[.bool s, .slice A n c], .agg #[.bool s', .slice A' n' c']] w fun e w' => e = .returned (.bool true) ∧ Below w.heap.size w w' := by
  subst he
  have hs : s = s' := by rw [h.2, h'.2]
  subst hs
  go_enter Tryd.func70, Tryd.ntmps70
  go_wp2_with fail
  obtain ⟨W, hW, b0, b1, hbW, hsz⟩ := boxes2 w #[.bool s, .slice A n c] #[.bool s, .slice A' n' c'] 64 64
  rw [hW]
  refine (same_true (Raw.below h.1.1 hbW) (Raw.below h'.1.1 hbW)).mono ?_
  rintro e w1 ⟨rfl, j, rfl⟩
  have hbf := below_drewN hbW j
  go_wp2_with fail
  go_returns
  exact ⟨rfl, hbf⟩
set_option maxRecDepth 100000 in
theorem small1 (W : World) : Calls Tryd.prog 123 #[.int .i64 1] W fun e W' => e = .returned (.string ⟨#[49]⟩) ∧ W = W' := by
  go_enter Tryd.func123, Tryd.ntmps123
  go_wp2_with fail
  go_ret
  exact ⟨rfl, rfl⟩
theorem app_grow1 (W : World) : GrowB ((W.alloc (.cells (#[Value.int .u8 49] ++ Builtin.zeroCells #[Value.int .u8 0] (grownCap W 1 0 5 - 1)) 5)).drew) W.heap.size (.slice (some ⟨W.heap.size, 0, none⟩) 1 (grownCap W 1 0 5)) [49] := by
  have h1 := grownCap_ge W 1 0 5
  have h2 := grownCap_le_maxLen W 1 0 5 (by simp only [maxLen]; omega)
  refine ⟨okB_one (by omega), by simp, .inr ⟨W.heap.size, _, _, rfl, Nat.le_refl _, heap_alloc_new W _, h1, h2, ?_, ?_⟩⟩
  · simp [size_zeroCells]; omega
  · simp [bv]
set_option maxRecDepth 100000 in
theorem inapp1 (W : World) : Calls Tryd.prog 120 #[.slice none 0 0, .int .u64 1, .int .i64 10] W fun e W' => ∃ v, e = .returned v ∧ GrowB W' W.heap.size v [49] ∧ Below W.heap.size W W' := by
  have H := Lib.hid (app_grow1 W)
  go_enter Tryd.func120, Tryd.ntmps120
  go_wp2_with fail
  refine (small1 _).mono ?_
  rintro e W' ⟨rfl, rfl⟩
  go_wp2_with fail
  go_ret
  exact ⟨_, rfl, H.out, (below_alloc W _).drew⟩
theorem app1 (w : World) : AppOk w 1 := fun W _ => by
  have hd : decs 1 = [49] := by rw [decs_pos (by omega), show 1 / 10 = 0 from rfl, decs_zero]; rfl
  rw [hd]
  have H := Lib.hid (inapp1 W)
  clear hd
  go_enter Tryd.func105, Tryd.ntmps105
  go_wp2_with fail
  refine H.out.mono ?_
  rintro e W' ⟨v, rfl, hg, hb⟩
  go_wp2_with fail
  go_ret
  exact ⟨v, rfl, hg, hb⟩
theorem nformat_dig {A : Option Addr} {n c L x : Nat} {w : World} (hx : RV w (.slice A n c) x L) (hL : L ≤ 1000) (hx0 : 0 < x) (hx9 : x < 1000000000) (hA : AppOk w x) :
    Calls Tryd.prog 40 #[.slice A n c] w fun e w' => e = .returned (.string (strB (decs x))) ∧ Below w.heap.size w w' := by
  obtain ⟨ds, h1, h2, h3⟩ := hx
  exact format_pos h1 (Lib.hid h2) hx0 (by rw [top9_small hx9]; exact hA) (by omega)
set_option maxRecDepth 100000 in
theorem format_m4 {A : Option Addr} {n c L : Nat} {s : Bool} {w : World} (h : NI w s (.slice A n c) (-4) L) (hL : L ≤ 1000) :
    Calls Tryd.prog 73 #[.agg #[.bool s, .slice A n c]] w fun e w' => e = .returned (.string ⟨#[45, 52]⟩) ∧ Below w.heap.size w w' := by
  have H := fun W (hbW : Below w.heap.size w W) => nformat_dig (x := 4) (h.below hbW).ri.rv hL (by omega) (by omega) (app4 W)
  simp only [show strB (decs 4) = ⟨#[52]⟩ by rw [decs_pos (by omega), show 4 / 10 = 0 from rfl, decs_zero]; rfl] at H
  have HH := Lib.hid H
  clear H
  go_enter Tryd.func73, Tryd.ntmps73
  go_wp2_with fail
  obtain ⟨W, hW, b0, hbW, hsz⟩ := boxes1 w #[.bool s, .slice A n c] 64
  rw [hW]
  refine (HH.out W hbW).mono ?_
  rintro e w1 ⟨rfl, hb0⟩
  have hb := hbW.trans (hb0.mono hbW.size)
  have h1 := h.below hb
  have q0 := b0.below hb0
  have a0 := q0.cell 0 _ rfl
  have a1 := q0.cell 1 _ rfl
  go_wp2_with fail
  refine (isign_v h1.ri).mono ?_
  rintro e w2 ⟨rfl, hb2⟩
  have hb3 := hb.trans (hb2.mono hb.size)
  rw [show (-4 : Int).sign = -1 from rfl]
  go_wp2_with fail
  go_returns
  exact ⟨rfl, hb3⟩
set_option maxRecDepth 100000 in
theorem format_p1 {A : Option Addr} {n c L : Nat} {s : Bool} {w : World} (h : NI w s (.slice A n c) 1 L) (hL : L ≤ 1000) :
    Calls Tryd.prog 73 #[.agg #[.bool s, .slice A n c]] w fun e w' => e = .returned (.string ⟨#[49]⟩) ∧ Below w.heap.size w w' := by
  have H := fun W (hbW : Below w.heap.size w W) => nformat_dig (x := 1) (h.below hbW).ri.rv hL (by omega) (by omega) (app1 W)
  simp only [show strB (decs 1) = ⟨#[49]⟩ by rw [decs_pos (by omega), show 1 / 10 = 0 from rfl, decs_zero]; rfl] at H
  have HH := Lib.hid H
  clear H
  go_enter Tryd.func73, Tryd.ntmps73
  go_wp2_with fail
  obtain ⟨W, hW, b0, hbW, hsz⟩ := boxes1 w #[.bool s, .slice A n c] 64
  rw [hW]
  refine (HH.out W hbW).mono ?_
  rintro e w1 ⟨rfl, hb0⟩
  have hb := hbW.trans (hb0.mono hbW.size)
  have h1 := h.below hb
  have q0 := b0.below hb0
  have a0 := q0.cell 0 _ rfl
  have a1 := q0.cell 1 _ rfl
  go_wp2_with fail
  refine (isign_v h1.ri).mono ?_
  rintro e w2 ⟨rfl, hb2⟩
  have hb3 := hb.trans (hb2.mono hb.size)
  rw [show (1 : Int).sign = 1 from rfl]
  go_wp2_with fail
  go_returns
  exact ⟨rfl, hb3⟩
set_option maxRecDepth 100000 in
theorem known2_any (w : World) : Calls Tryd.prog 43 #[] w fun e w' => e = .returned (.bool true) ∧ Below w.heap.size w w' := by
  go_enter Tryd.func43, Tryd.ntmps43
  go_wp2_with fail
  refine (ifromint_v (-7) (by omega) (by omega) w).mono ?_
  rintro e w1 ⟨t1, B1, k1, d1, rfl, h1, hb⟩
  go_wp2_with fail
  refine (ifromint_v 2 (by omega) (by omega) w1).mono ?_
  rintro e w2 ⟨t2, B2, k2, d2, rfl, h2, hb2⟩
  have h3 := h1.below hb2
  have hb3 := hb.trans (hb2.mono hb.size)
  clear hb hb2 h1
  go_wp2_with fail
  refine (idivmod_v h3.ri h2.ri (by omega) (by omega)).mono ?_
  rintro e w3 ⟨zq, zr, t, B, k, d, t', B', k', d', rfl, hQ, hR, hqr, hb4⟩
  have hb5 := hb3.trans (hb4.mono hb3.size)
  obtain ⟨e1, e2, e3⟩ := hqr
  have e4 : zq = -4 := by omega
  have e5 : zr = 1 := by omega
  rw [e4] at hQ
  rw [e5] at hR
  clear e1 e2 e3 e4 e5 hb3 hb4 h3 h2
  go_wp2_with fail
  obtain ⟨W, hW, b0, b1, hbW, hsz⟩ := boxes2 w3 #[.bool t, .slice B k d] #[.bool t', .slice B' k' d'] 64 64
  rw [hW]
  refine (format_m4 (hQ.below hbW) (by omega)).mono ?_
  rintro e w4 ⟨rfl, hb6⟩
  have hR2 := (hR.below hbW).below hb6
  have hb7 := hb5.trans ((hbW.trans (hb6.mono hbW.size)).mono hb5.size)
  have q1 := b1.below hb6
  have a0 := q1.cell 0 _ rfl
  have a1 := q1.cell 1 _ rfl
  clear hb5 hb6 hR hQ
  go_wp2_with fail
  refine (format_p1 hR2 (by omega)).mono ?_
  rintro e w5 ⟨rfl, hb8⟩
  have hb9 := hb7.trans (hb8.mono hb7.size)
  go_wp2_with fail
  go_returns
  exact ⟨rfl, hb9⟩
end Go.Proofs.YtacfdcfkfjildaaDoor
