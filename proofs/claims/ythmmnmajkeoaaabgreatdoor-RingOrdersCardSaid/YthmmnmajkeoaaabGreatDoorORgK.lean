/-
  Points of the reference; what the coordinates say of a ring; known of the laws of rings.
-/
import Derived.Test.YthmmnmajkeoaaabGreatDoorOGF
import Derived.Test.YthmmnmajkeoaaabGreatDoorOIs
namespace Go.Proofs.YthmmnmajkeoaaabGreatDoor
open Go.RowKit
section
variable {w : World} {L : Nat}
theorem gxy_p (z z' : Int) (h0 : -9223372036854775808 ≤ z) (h1 : z ≤ 9223372036854775807) (h2 : -9223372036854775808 ≤ z') (h3 : z' ≤ 9223372036854775807) (w : World) :
    Calls Tryz.prog 14 #[.int .i64 z, .int .i64 z'] w fun e w' => ∃ x : PP, e = .returned (.agg #[.bool x.s0, .slice x.A0 x.n0 x.c0, .slice x.D0 x.m0 x.e0, .bool x.s1, .slice x.A1 x.n1 x.c1, .slice x.D1 x.m1 x.e1]) ∧ x.pt = ((z : Rat), (z' : Rat)) ∧ x.pq w' 2 ∧ Below w.heap.size w w' := by
  refine (gxy_v z z' h0 h1 h2 h3 w).mono ?_
  rintro e w2 ⟨s2, A2, n2, c2, D2, m2, e2, s3, A3, n3, c3, D3, m3, e3, rfl, k0, k1, hb⟩
  exact ⟨⟨s2, A2, n2, c2, D2, m2, e2, s3, A3, n3, c3, D3, m3, e3, z, z'⟩, rfl, rfl, ⟨k0, k1⟩, hb⟩
theorem PP.pq.below {x : PP} {w' : World} (h : x.pq w L) (hb : Below w.heap.size w w') : x.pq w' L := (firm_pq1 x L).below h hb
theorem box_read {g : Nat} {t : TypeId} {zs : List PP} (h : Box w g (rowsP zs).flatten.toArray t) (hn : zs.length ≤ maxLen) : ReadR w 6 (.slice (some ⟨g, 0, none⟩) zs.length zs.length) (rowsP zs) := by
  have hk : ∀ cs ∈ rowsP zs, cs.length = 6 := fun cs hcs => by
    obtain ⟨z, _, rfl⟩ := List.mem_map.1 hcs; rfl
  refine ⟨hk, _, zs.length, by rw [rowsP_len], by rw [rowsP_len]; exact Nat.le_refl _, hn, fun _ => ⟨g, 0, rfl, fun i cs hi j x hx => ?_⟩⟩
  rw [Nat.zero_add]
  exact h.cell _ _ (by simpa using flat_get hk hi hx)
def stopsP (l : List (Rat × Rat)) : Bool := (List.range l.length).any fun i => decide (l.getD i (0, 0) = l.getD ((i + 1) % l.length) (0, 0))
def opensP (l : List (Rat × Rat)) : Bool := (List.range l.length).any fun i => !decide (l.getD ((i + l.length - 1) % l.length) (0, 0) = l.getD ((i + 1) % l.length) (0, 0))
theorem pt_getD (zs : List PP) (i : Nat) : (zs.getD i default).pt = (zs.map PP.pt).getD i (0, 0) := by
  rw [List.getD_eq_getElem?_getD, List.getD_eq_getElem?_getD, List.getElem?_map]
  cases zs[i]? <;> rfl
theorem stops_pt (zs : List PP) : stopsB zs = stopsP (zs.map PP.pt) := by
  unfold stopsB stopsP upto edgeP
  rw [List.any_map, List.length_map]
  congr 1
  funext i
  simp only [Function.comp, pt_getD]
theorem opens_pt (zs : List PP) : opensB zs = opensP (zs.map PP.pt) := by
  unfold opensB opensP upto cornP
  rw [List.any_map, List.length_map]
  congr 1
  funext i
  simp only [Function.comp, pt_getD]
set_option maxRecDepth 100000 in
set_option maxHeartbeats 4000000 in
theorem known9_any {a : Addr} (hE : SentV w 0 a) :
    Calls Tryz.prog 10 #[] w fun e w' => e = .returned (.bool true) ∧ Below w.heap.size w w' := by
  go_enter Tryz.func10, Tryz.ntmps10
  go_wp2_with fail
  refine (gxy_p 0 0 (by decide) (by decide) (by decide) (by decide) w).mono ?_
  rintro e w1 ⟨x, rfl, hx, kx, H0⟩
  go_wp2_with fail
  refine (gxy_p 2 0 (by decide) (by decide) (by decide) (by decide) w1).mono ?_
  rintro e w2 ⟨y, rfl, hy, ky, hb⟩
  replace kx := kx.below hb
  replace H0 := H0.trans (hb.mono H0.size)
  clear hb
  go_wp2_with fail
  refine (gxy_p 0 2 (by decide) (by decide) (by decide) (by decide) w2).mono ?_
  rintro e w3 ⟨z, rfl, hz, kz, hb⟩
  replace kx := kx.below hb
  replace ky := ky.below hb
  replace H0 := H0.trans (hb.mono H0.size)
  clear hb
  go_wp2_with fail
  obtain ⟨Wb1, hWb, bb, hbb, hsb⟩ := boxes1 w3 #[.bool x.s0, .slice x.A0 x.n0 x.c0, .slice x.D0 x.m0 x.e0, .bool x.s1, .slice x.A1 x.n1 x.c1, .slice x.D1 x.m1 x.e1, .bool y.s0, .slice y.A0 y.n0 y.c0, .slice y.D0 y.m0 y.e0, .bool y.s1, .slice y.A1 y.n1 y.c1, .slice y.D1 y.m1 y.e1, .bool z.s0, .slice z.A0 z.n0 z.c0, .slice z.D0 z.m0 z.e0, .bool z.s1, .slice z.A1 z.n1 z.c1, .slice z.D1 z.m1 z.e1] 51
  rw [hWb]
  clear hWb hsb
  have hR1 : ReadR Wb1 6 (.slice (some ⟨w3.heap.size, 0, none⟩) 3 3) (rowsP [x, y, z]) := box_read (zs := [x, y, z]) bb (by simp; decide)
  have hP1 : FP Wb1 2 [x, y, z] := by
    intro z hz
    simp at hz
    rcases hz with rfl | rfl | rfl
    · exact kx.below hbb
    · exact ky.below hbb
    · exact kz.below hbb
  replace H0 := H0.trans (hbb.mono H0.size)
  clear hbb bb kx ky kz
  have hl1 : [x, y, z].map PP.pt = [(((0 : Int) : Rat), ((0 : Int) : Rat)), (((2 : Int) : Rat), ((0 : Int) : Rat)), (((0 : Int) : Rat), ((2 : Int) : Rat))] := by simp only [List.map_cons, List.map_nil, hx, hy, hz]
  clear hx hy hz
  refine (topts_v hR1 hP1 (by simp) (by decide)).mono ?_
  rintro e w4 ⟨A4, c4, ys, rfl, hR4, hF4, hm4, hb⟩
  rw [hl1] at hm4
  have hlen : ys.length = 3 := by have := congrArg List.length hm4; simpa using this
  replace H0 := H0.trans (hb.mono H0.size)
  clear hb hl1 hR1 hP1
  have hst : stopsB ys = false := by rw [stops_pt, hm4]; decide +kernel
  have hop : opensB ys = true := by rw [opens_pt, hm4]; decide +kernel
  have hsw : sw ((ys ++ ys.take 1).map PP.pt) / 2 = ((2 : Int) : Rat) := by rw [List.map_append, List.map_take, hm4]; decide +kernel
  have HSW := Lib.hid hsw
  have HLN := Lib.hid hlen
  clear hsw hm4
  have l1 : 1 ≤ ys.length := by omega
  have l2 : ys.length ≤ 19 := by omega
  clear hlen
  go_wp2_with fail
  refine (area_v (by decide) hR4 hF4 l1 l2 hst hop).mono ?_
  rintro e w5 ⟨s6, A6, n6, c6, D6, m6, e6, rfl, g6, hb⟩
  rw [HSW.out, HLN.out] at g6
  replace H0 := H0.trans (hb.mono H0.size)
  clear hb hR4 hF4 l1 l2 hst hop HSW HLN
  obtain ⟨W6, hW6, b1, hb6, hs6⟩ := boxes1 w5 #[.bool s6, .slice A6 n6 c6, .slice D6 m6 e6] 63
  go_wp2_with fail
  clear hW6 hs6
  replace g6 := g6.below hb6
  replace H0 := H0.trans (hb6.mono H0.size)
  clear hb6
  refine (gxy_p 0 0 (by decide) (by decide) (by decide) (by decide) _).mono ?_
  rintro e v1 ⟨p, rfl, hp, kp, hb⟩
  replace H0 := H0.trans (hb.mono H0.size)
  replace g6 := g6.below hb
  replace b1 := b1.below hb
  clear hb
  go_wp2_with fail
  refine (gxy_p 1 0 (by decide) (by decide) (by decide) (by decide) _).mono ?_
  rintro e v2 ⟨q, rfl, hq, kq, hb⟩
  replace kp := kp.below hb
  replace H0 := H0.trans (hb.mono H0.size)
  replace g6 := g6.below hb
  replace b1 := b1.below hb
  clear hb
  go_wp2_with fail
  refine (gxy_p 0 0 (by decide) (by decide) (by decide) (by decide) _).mono ?_
  rintro e v3 ⟨r, rfl, hr, kr, hb⟩
  replace kp := kp.below hb
  replace kq := kq.below hb
  replace H0 := H0.trans (hb.mono H0.size)
  replace g6 := g6.below hb
  replace b1 := b1.below hb
  clear hb
  go_wp2_with fail
  refine (gxy_p 1 0 (by decide) (by decide) (by decide) (by decide) _).mono ?_
  rintro e v4 ⟨t, rfl, ht, kt, hb⟩
  replace kp := kp.below hb
  replace kq := kq.below hb
  replace kr := kr.below hb
  replace H0 := H0.trans (hb.mono H0.size)
  replace g6 := g6.below hb
  replace b1 := b1.below hb
  clear hb
  go_wp2_with fail
  obtain ⟨Wb2, hWb, bb, hbb, hsb⟩ := boxes1 v4 #[.bool p.s0, .slice p.A0 p.n0 p.c0, .slice p.D0 p.m0 p.e0, .bool p.s1, .slice p.A1 p.n1 p.c1, .slice p.D1 p.m1 p.e1, .bool q.s0, .slice q.A0 q.n0 q.c0, .slice q.D0 q.m0 q.e0, .bool q.s1, .slice q.A1 q.n1 q.c1, .slice q.D1 q.m1 q.e1, .bool r.s0, .slice r.A0 r.n0 r.c0, .slice r.D0 r.m0 r.e0, .bool r.s1, .slice r.A1 r.n1 r.c1, .slice r.D1 r.m1 r.e1, .bool t.s0, .slice t.A0 t.n0 t.c0, .slice t.D0 t.m0 t.e0, .bool t.s1, .slice t.A1 t.n1 t.c1, .slice t.D1 t.m1 t.e1] 51
  rw [hWb]
  clear hWb hsb
  have hR2 : ReadR Wb2 6 (.slice (some ⟨v4.heap.size, 0, none⟩) 4 4) (rowsP [p, q, r, t]) := box_read (zs := [p, q, r, t]) bb (by simp; decide)
  have hP2 : FP Wb2 2 [p, q, r, t] := by
    intro z hz
    simp at hz
    rcases hz with rfl | rfl | rfl | rfl
    · exact kp.below hbb
    · exact kq.below hbb
    · exact kr.below hbb
    · exact kt.below hbb
  replace H0 := H0.trans (hbb.mono H0.size)
  replace g6 := g6.below hbb
  replace b1 := b1.below hbb
  clear hbb bb kp kq kr kt
  have hl2 : [p, q, r, t].map PP.pt = [(((0 : Int) : Rat), ((0 : Int) : Rat)), (((1 : Int) : Rat), ((0 : Int) : Rat)), (((0 : Int) : Rat), ((0 : Int) : Rat)), (((1 : Int) : Rat), ((0 : Int) : Rat))] := by simp only [List.map_cons, List.map_nil, hp, hq, hr, ht]
  clear hp hq hr ht
  refine (topts_v hR2 hP2 (by simp) (by decide)).mono ?_
  rintro e v5 ⟨A5, c5, us, rfl, hR5, hF5, hm5, hb⟩
  rw [hl2] at hm5
  have hlen : us.length = 4 := by have := congrArg List.length hm5; simpa using this
  replace H0 := H0.trans (hb.mono H0.size)
  replace g6 := g6.below hb
  replace b1 := b1.below hb
  clear hb hl2 hR2 hP2
  have hst : stopsB us = false := by rw [stops_pt, hm5]; decide +kernel
  have hop : opensB us = false := by rw [opens_pt, hm5]; decide +kernel
  have l2 : us.length ≤ 4096 := by omega
  clear hlen hm5
  go_wp2_with fail
  refine (check_shut hR5 hF5 l2 (by decide) hst hop (hE.below H0)).mono ?_
  rintro e v6 ⟨rfl, hb⟩
  replace H0 := H0.trans (hb.mono H0.size)
  replace g6 := g6.below hb
  replace b1 := b1.below hb
  clear hb hR5 hF5 l2 hst hop
  have x0 := b1.cell 0 _ rfl
  have x1 := b1.cell 1 _ rfl
  have x2 := b1.cell 2 _ rfl
  go_wp2_with fail
  clear x0 x1 x2
  refine (refq_v g6.rq (by decide)).mono ?_
  rintro e v7 ⟨s7, A7, n7, c7, D7, m7, e7, rfl, g7, hb⟩
  replace H0 := H0.trans (hb.mono H0.size)
  clear hb g6 b1
  go_wp2_with fail
  refine (nof_v 2 (by decide) (by decide) _).mono ?_
  rintro e v8 ⟨s8, A8, n8, c8, D8, m8, e8, rfl, g8, hb⟩
  replace H0 := H0.trans (hb.mono H0.size)
  replace g7 := g7.below hb
  clear hb
  go_wp2_with fail
  refine (nqc_v g7 g8 (by decide) (by decide) (by rw [Rat.sub_self])).mono ?_
  rintro e v9 ⟨rfl, hb⟩
  replace H0 := H0.trans (hb.mono H0.size)
  clear hb g7 g8
  have hE9 := hE.below H0
  unfold SentV at hE9
  go_wp2_with fail
  refine (is_same a _).mono ?_
  rintro e v10 ⟨rfl, rfl⟩
  go_wp2_with fail
  go_returns
  exact ⟨rfl, H0⟩
end
end Go.Proofs.YthmmnmajkeoaaabGreatDoor
