/-
  The contracts of package integer: sum, difference, product.
-/
import Derived.Test.YtacfdcfkfjildaaDoorIntC
namespace Go.Proofs.YtacfdcfkfjildaaDoor
open Go.RowKit
section
variable {A A' : Option Addr} {n n' c c' x y L L' : Nat} {s s' : Bool} {z z' : Int} {w : World}
theorem sub_no_v (hx : RV w (.slice A n c) x L) (hy : RV w (.slice A' n' c') y L') (h : x < y) :
    Calls Tryd.prog 17 #[.slice A n c, .slice A' n' c'] w fun e w' => e = .returned (.tuple #[.slice none 0 0, .bool false]) ∧ Below w.heap.size w w' := by
  obtain ⟨ds, h1, h2, h3⟩ := hx
  obtain ⟨es, k1, k2, k3⟩ := hy
  exact sub_lt h1 k1 (Lib.hid h2) (Lib.hid k2) h
set_option maxRecDepth 100000 in
theorem iadd_same (s : Bool) (hx : RV w (.slice A n c) x L) (hy : RV w (.slice A' n' c') y L') (hL : L ≤ 1000000) (hL' : L' ≤ 1000000) (hz : sg s (x + y) = z) :
    Calls Tryd.prog 62 #[.agg #[.bool s, .slice A n c], .agg #[.bool s, .slice A' n' c']] w fun e w' => ∃ t B k d, e = .returned (.agg #[.bool t, .slice B k d]) ∧ NI w' t (.slice B k d) z (max L L' + 1) ∧ Below w.heap.size w w' := by
  have HZ := Lib.hid hz
  clear hz
  cases s
  · go_enter Tryd.func62, Tryd.ntmps62
    go_wp2_with fail
    obtain ⟨W, hW, b0, b1, b2, hbW, hsz⟩ := boxes3 w #[.bool false, .slice A n c] #[.bool false, .slice A' n' c'] #[.bool false, .slice none 0 0] 64 64 64
    rw [hW]
    have a0 := b0.cell 0 _ rfl
    have a1 := b0.cell 1 _ rfl
    have d0 := b1.cell 0 _ rfl
    have d1 := b1.cell 1 _ rfl
    have hx1 := hx.below hbW
    have hy1 := hy.below hbW
    clear hW hx hy
    go_wp2_with fail
    go_region_held3 (fun V => V.cell? ⟨w.heap.size, 0, none⟩ = some (.bool false) ∧ V.cell? ⟨w.heap.size, 1, none⟩ = some (.slice A n c) ∧ V.cell? ⟨w.heap.size + 1, 0, none⟩ = some (.bool false) ∧ V.cell? ⟨w.heap.size + 1, 1, none⟩ = some (.slice A' n' c')) (first | exact ⟨a0, a1, d0, d1⟩ | exact HC | exact KC | exact ⟨(p0.far (by omega) _ _).cell 0 _ rfl, (p0.far (by omega) _ _).cell 1 _ rfl, (p1.far (by omega) _ _).cell 0 _ rfl, (p1.far (by omega) _ _).cell 1 _ rfl⟩ | go_keep)
      (first
        | (go_at_call 22; refine (add_v (w := W.drew) hx1 hy1 hL hL').mono ?_; rintro e w1 ⟨B, k, d, rfl, hN, hb1⟩; have hb1' := below_drawn hb1; have q0 := b0.below hb1'; have q1 := b1.below hb1'; have q2 := b2.below hb1'; have HC := And.intro (q0.cell 0 _ rfl) (And.intro (q0.cell 1 _ rfl) (And.intro (q1.cell 0 _ rfl) (q1.cell 1 _ rfl))))
        | (go_at_call 106; refine (signed_v _ hN HZ.out).mono ?_; rintro e w2 ⟨t, rfl, hI, hb2⟩; have p0 := q0.below hb2; have p1 := q1.below hb2; have p2 := q2.below hb2; have KC := And.intro (p0.cell 0 _ rfl) (And.intro (p0.cell 1 _ rfl) (And.intro (p1.cell 0 _ rfl) (p1.cell 1 _ rfl))); have r0 := p2.cell 0 _ rfl; have r1 := p2.cell 1 _ rfl; have f0 := p2.frozen 0; have f1 := p2.frozen 1; have hbT := hbW.trans ((hb1'.trans (hb2.mono hb1'.size)).mono hbW.size)))
    have hI2 := hI.stored p2 (notInt_box _ _ _ _) (.bool t) (.slice B k d)
    have hbf := below_stored (g := w.heap.size + 1 + 1) hbT (by omega) (.bool t) (.slice B k d)
    have hbx := p2.stored (.bool t) (.slice B k d)
    go_wp2_with fail
    refine bodyPost_ret (ret_int rfl rfl hbx) rfl ?_
    exact ⟨t, B, k, d, rfl, hI2, hbf⟩
  · go_enter Tryd.func62, Tryd.ntmps62
    go_wp2_with fail
    obtain ⟨W, hW, b0, b1, b2, hbW, hsz⟩ := boxes3 w #[.bool true, .slice A n c] #[.bool true, .slice A' n' c'] #[.bool false, .slice none 0 0] 64 64 64
    rw [hW]
    have a0 := b0.cell 0 _ rfl
    have a1 := b0.cell 1 _ rfl
    have d0 := b1.cell 0 _ rfl
    have d1 := b1.cell 1 _ rfl
    have hx1 := hx.below hbW
    have hy1 := hy.below hbW
    clear hW hx hy
    go_wp2_with fail
    go_region_held3 (fun V => V.cell? ⟨w.heap.size, 0, none⟩ = some (.bool true) ∧ V.cell? ⟨w.heap.size, 1, none⟩ = some (.slice A n c) ∧ V.cell? ⟨w.heap.size + 1, 0, none⟩ = some (.bool true) ∧ V.cell? ⟨w.heap.size + 1, 1, none⟩ = some (.slice A' n' c')) (first | exact ⟨a0, a1, d0, d1⟩ | exact HC | exact KC | exact ⟨(p0.far (by omega) _ _).cell 0 _ rfl, (p0.far (by omega) _ _).cell 1 _ rfl, (p1.far (by omega) _ _).cell 0 _ rfl, (p1.far (by omega) _ _).cell 1 _ rfl⟩ | go_keep)
      (first
        | (go_at_call 22; refine (add_v (w := W.drew) hx1 hy1 hL hL').mono ?_; rintro e w1 ⟨B, k, d, rfl, hN, hb1⟩; have hb1' := below_drawn hb1; have q0 := b0.below hb1'; have q1 := b1.below hb1'; have q2 := b2.below hb1'; have HC := And.intro (q0.cell 0 _ rfl) (And.intro (q0.cell 1 _ rfl) (And.intro (q1.cell 0 _ rfl) (q1.cell 1 _ rfl))))
        | (go_at_call 106; refine (signed_v _ hN HZ.out).mono ?_; rintro e w2 ⟨t, rfl, hI, hb2⟩; have p0 := q0.below hb2; have p1 := q1.below hb2; have p2 := q2.below hb2; have KC := And.intro (p0.cell 0 _ rfl) (And.intro (p0.cell 1 _ rfl) (And.intro (p1.cell 0 _ rfl) (p1.cell 1 _ rfl))); have r0 := p2.cell 0 _ rfl; have r1 := p2.cell 1 _ rfl; have f0 := p2.frozen 0; have f1 := p2.frozen 1; have hbT := hbW.trans ((hb1'.trans (hb2.mono hb1'.size)).mono hbW.size)))
    have hI2 := hI.stored p2 (notInt_box _ _ _ _) (.bool t) (.slice B k d)
    have hbf := below_stored (g := w.heap.size + 1 + 1) hbT (by omega) (.bool t) (.slice B k d)
    have hbx := p2.stored (.bool t) (.slice B k d)
    go_wp2_with fail
    refine bodyPost_ret (ret_int rfl rfl hbx) rfl ?_
    exact ⟨t, B, k, d, rfl, hI2, hbf⟩
end
end Go.Proofs.YtacfdcfkfjildaaDoor
