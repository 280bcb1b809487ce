/-
  The reference's Q and NormalQ of any rational number.
-/
import Derived.Test.YtpgkkkodniiilaaGreatDoorWRatS
import Derived.Test.YtpgkkkodniiilaaGreatDoorWRatO
import Derived.LoopN
namespace Go.Proofs.YtpgkkkodniiilaaGreatDoor
open Go.RowKit
section
variable {w w' : World} {B : Nat} {v : Value} {ds : List Nat}
set_option maxRecDepth 100000 in
/-- N: the canonical digits, in memory of their own. -/
theorem n_is {A : Option Addr} {n c x : Nat} {ds : List Nat} {w : World} (hx : Raw w (.slice A n c) ds) (hvx : Hid (val ds = x)) :
    Calls Tryz.prog 58 #[.slice A n c] w fun e w' => ∃ B k d, e = .returned (.slice B k d) ∧ Num w' (.slice B k d) x ∧ Below w.heap.size w w' := by
  have hl := Raw.len hx
  go_enter Tryz.func58, Tryz.ntmps58
  go_wp2_with (at_builtin; refine wpList_append_digs rfl _ _ _ _ rfl Tryz.underlying23 Tryz.underlying24 w.heap.size rfl (grow_empty w) rfl (raw_alloc hx _) (by simp) (by simpa using hl) ?_; intro v' w1 hg hgr hb)
  rw [List.nil_append] at hg
  have hb2 := (below_alloc w (.cells #[] 160)).trans hb
  obtain ⟨A1, c1, rfl⟩ := hg.form
  have hr := hg.raw hl
  go_wp2_with fail
  refine (ntrim_is hr hvx).mono ?_
  rintro e w' ⟨rfl, hN, rfl⟩
  go_wp2_with fail
  go_ret
  exact ⟨_, _, _, rfl, hN, hb2⟩
end
section
variable {A A' : Option Addr} {n n' c c' x y L L' : Nat} {ds : List Nat} {w : World}
theorem n_v (hx : RV w (.slice A n c) x L) :
    Calls Tryz.prog 58 #[.slice A n c] w fun e w' => ∃ B k d, e = .returned (.slice B k d) ∧ NV w' (.slice B k d) x L ∧ Below w.heap.size w w' := by
  have hb := hx.lt
  obtain ⟨ds, h1, h2, h3⟩ := hx
  refine (n_is h1 (Lib.hid h2)).mono ?_
  rintro e w' ⟨B, k, d, rfl, hN, hbl⟩
  exact ⟨B, k, d, rfl, ⟨hN, hb⟩, hbl⟩
end
section
variable {A A' : Option Addr} {n n' c c' x y L L' : Nat} {s s' : Bool} {z z' k : Int} {w : World} {ds : List Nat}
set_option maxRecDepth 100000 in
theorem refI_v (h : RI w s (.slice A n c) z L) :
    Calls Tryz.prog 60 #[.agg #[.bool s, .slice A n c]] w fun e w' => ∃ t B k d, e = .returned (.agg #[.bool t, .slice B k d]) ∧ NI w' t (.slice B k d) z L ∧ Below w.heap.size w w' := by
  have hz := h.sg.symm
  have hr := h.rv
  have HZ := Lib.hid hz
  clear h hz
  go_enter Tryz.func60, Tryz.ntmps60
  go_wp2_with fail
  obtain ⟨W, hW, b0, b1, hbW, hsz⟩ := boxes2 w #[.bool s, .slice A n c] #[.bool false, .slice none 0 0] 26 35
  rw [hW]
  clear hW
  have hr1 := hr.below (hbW.trans ((drawn_below W).mono hbW.size))
  go_region_held3 (fun V => V.cell? ⟨w.heap.size, 0, none⟩ = some (.bool s) ∧ V.cell? ⟨w.heap.size, 1, none⟩ = some (.slice A n c)) (first | exact KC | exact HC | exact (And.intro (b0.cell 0 _ rfl) (b0.cell 1 _ rfl)) | exact ⟨(p0.far (by omega) _ _).cell 0 _ rfl, (p0.far (by omega) _ _).cell 1 _ rfl⟩ | go_keep)
    (first
      | (go_at_call 58; refine (n_v hr1).mono ?_; rintro e w1 ⟨B, k, d, rfl, hN, hb1⟩; have hb1' := below_drawn hb1; have q0 := b0.below hb1'; have q1 := b1.below hb1'; have HC := (And.intro (q0.cell 0 _ rfl) (q0.cell 1 _ rfl)))
      | (go_at_call 74; refine (nmake_v _ hN HZ.out).mono ?_; rintro e w2 ⟨t, rfl, hI, hb2⟩; have p0 := q0.below hb2; have p1 := q1.below hb2; have KC := (And.intro (p0.cell 0 _ rfl) (p0.cell 1 _ rfl)); have r0 := p1.cell 0 _ rfl; have r1 := p1.cell 1 _ rfl; have f0 := p1.frozen 0; have f1 := p1.frozen 1; have hbT := hbW.trans ((hb1'.trans (hb2.mono hb1'.size)).mono hbW.size))
    )
  have hF := hI.stored p1 (notInt_box _ _ _ _) (.bool t) (.slice B k d)
  have hbf := below_stored (g := w.heap.size + 1) hbT (by omega) (.bool t) (.slice B k d)
  have hbx := p1.stored (.bool t) (.slice B k d)
  go_wp2_with fail
  refine bodyPost_ret (ret_intN rfl rfl hbx) rfl ?_
  exact ⟨t, B, k, d, rfl, hF, hbf⟩
end
section
variable {A0 A1 A2 A3 D0 D1 D2 D3 : Option Addr} {n0 n1 n2 n3 c0 c1 c2 c3 m0 m1 m2 m3 e0 e1 e2 e3 : Nat} {s0 s1 s2 s3 : Bool} {z z' z0 z1 z2 : Int} {q q' q0 q1 q2 : Rat} {L L0 L1 L2 x x0 x1 y : Nat} {k : Int} {w : World}
set_option maxRecDepth 100000 in
set_option maxHeartbeats 800000 in
theorem refq_v (h : RQ w s0 (.slice A0 n0 c0) (.slice D0 m0 e0) q L) (hL : L ≤ 900) :
    Calls Tryz.prog 20 #[.agg #[.bool s0, .slice A0 n0 c0, .slice D0 m0 e0]] w fun e w' => ∃ s1 A1 n1 c1 D1 m1 e1, e = .returned (.agg #[.bool s1, .slice A1 n1 c1, .slice D1 m1 e1]) ∧ PQ w' s1 (.slice A1 n1 c1) (.slice D1 m1 e1) q L ∧ Below w.heap.size w w' := by
  obtain ⟨z, d, h1, h2, rfl⟩ := h
  rcases Decidable.em (d = 0) with h0 | h0
  · subst h0
    rw [Rat.mkRat_zero]
    clear h1
    go_enter Tryz.func20, Tryz.ntmps20
    go_wp2_with fail
    obtain ⟨W0, hW, b0, b1, hbW, hszW0⟩ := boxes2 w #[.bool s0, .slice A0 n0 c0, .slice D0 m0 e0] #[.bool false, .slice none 0 0, .slice none 0 0] 28 37
    rw [hW]
    clear hW
    replace h2 := h2.below hbW
    have H0 := hbW
    clear hbW
    have cb00 := b0.cell 0 _ rfl
    have cb01 := b0.cell 1 _ rfl
    have cb02 := b0.cell 2 _ rfl
    go_wp2_with fail
    clear cb00 cb01 cb02
    refine (n_v h2).mono ?_
    rintro e w1 ⟨D2, m2, e2, rfl, fd, hb⟩
    replace h2 := h2.below hb
    replace b0 := b0.below hb
    replace b1 := b1.below hb
    replace H0 := H0.trans (hb.mono H0.size)
    clear hb
    have hm := nv_zero fd
    subst hm
    clear h2
    clear fd
    have cb10 := b1.cell 0 _ rfl
    have yb10 := b1.frozen 0
    have cb11 := b1.cell 1 _ rfl
    have yb11 := b1.frozen 1
    have cb12 := b1.cell 2 _ rfl
    have yb12 := b1.frozen 2
    go_wp2_with fail
    clear cb10 yb10 cb11 yb11 cb12 yb12
    have hg := only_store3 w1 (w.heap.size + 1) (.bool false) (.slice none 0 0) (.slice none 0 0)
    have hB := b1.stored3 (.bool false) (.slice none 0 0) (.slice none 0 0)
    generalize hX : (((w1.setCell ⟨w.heap.size + 1, 0, none⟩ (.bool false)).setCell ⟨w.heap.size + 1, 1, none⟩ (.slice none 0 0)).setCell ⟨w.heap.size + 1, 2, none⟩ (.slice none 0 0)) = X2 at hg hB ⊢
    clear hX
    replace b0 := b0.other hg (by omega)
    replace b1 := hB
    replace H0 := below_only H0 hg (by omega) H0.size
    clear hg hB
    refine bodyPost_ret (ret_numq rfl rfl b1) rfl ?_
    exact ⟨false, none, 0, 0, none, 0, 0, rfl, PQ.zero _, H0⟩
  · have HP := Lib.hid (Nat.pos_of_ne_zero h0)
    have HN := Lib.hid h0
    clear h0
    go_enter Tryz.func20, Tryz.ntmps20
    go_wp2_with fail
    obtain ⟨W0, hW, b0, b1, hbW, hszW0⟩ := boxes2 w #[.bool s0, .slice A0 n0 c0, .slice D0 m0 e0] #[.bool false, .slice none 0 0, .slice none 0 0] 28 37
    rw [hW]
    clear hW
    replace h1 := h1.below hbW
    replace h2 := h2.below hbW
    have H0 := hbW
    clear hbW
    have cb00 := b0.cell 0 _ rfl
    have cb01 := b0.cell 1 _ rfl
    have cb02 := b0.cell 2 _ rfl
    go_wp2_with fail
    clear cb00 cb01 cb02
    refine (n_v h2).mono ?_
    rintro e w1 ⟨D2, m2, e2, rfl, fd, hb⟩
    replace h1 := h1.below hb
    replace h2 := h2.below hb
    replace b0 := b0.below hb
    replace b1 := b1.below hb
    replace H0 := H0.trans (hb.mono H0.size)
    clear hb
    clear h2
    have hm := nv_pos fd HP.out
    have hm1 : ((m2 : Int) == 0) = false := by rw [beq_eq_false_iff_ne]; omega
    have cb00 := b0.cell 0 _ rfl
    have cb01 := b0.cell 1 _ rfl
    have cb02 := b0.cell 2 _ rfl
    go_wp2_with fail
    clear cb00 cb01 cb02
    refine (refI_v h1).mono ?_
    rintro e w2 ⟨s3, A3, n3, c3, rfl, fi, hb⟩
    replace h1 := h1.below hb
    replace fd := fd.below hb
    replace b0 := b0.below hb
    replace b1 := b1.below hb
    replace H0 := H0.trans (hb.mono H0.size)
    clear hb
    go_wp2_with fail
    clear h1
    refine (nfrac_v fi fd HN.out (by omega)).mono ?_
    rintro e w3 ⟨s4, A4, n4, c4, D4, m4, e4, rfl, fq, hb⟩
    replace fd := fd.below hb
    replace fi := fi.below hb
    replace b0 := b0.below hb
    replace b1 := b1.below hb
    replace H0 := H0.trans (hb.mono H0.size)
    clear hb
    have cb10 := b1.cell 0 _ rfl
    have yb10 := b1.frozen 0
    have cb11 := b1.cell 1 _ rfl
    have yb11 := b1.frozen 1
    have cb12 := b1.cell 2 _ rfl
    have yb12 := b1.frozen 2
    clear fi
    clear fd
    clear cb10 yb10 cb11 yb11 cb12 yb12
    have cb10 := b1.cell 0 _ rfl
    have yb10 := b1.frozen 0
    have cb11 := b1.cell 1 _ rfl
    have yb11 := b1.frozen 1
    have cb12 := b1.cell 2 _ rfl
    have yb12 := b1.frozen 2
    go_wp2_with fail
    clear cb10 yb10 cb11 yb11 cb12 yb12
    have hg := only_store3 w3 (w.heap.size + 1) (.bool s4) (.slice A4 n4 c4) (.slice D4 m4 e4)
    have hB := b1.stored3 (.bool s4) (.slice A4 n4 c4) (.slice D4 m4 e4)
    generalize hX : (((w3.setCell ⟨w.heap.size + 1, 0, none⟩ (.bool s4)).setCell ⟨w.heap.size + 1, 1, none⟩ (.slice A4 n4 c4)).setCell ⟨w.heap.size + 1, 2, none⟩ (.slice D4 m4 e4)) = X4 at hg hB ⊢
    clear hX
    replace fq := fq.kept b1 (by simp [notInt]) hg
    replace b0 := b0.other hg (by omega)
    replace b1 := hB
    replace H0 := below_only H0 hg (by omega) H0.size
    clear hg hB
    refine bodyPost_ret (ret_numq rfl rfl b1) rfl ?_
    exact ⟨s4, A4, n4, c4, D4, m4, e4, rfl, fq, H0⟩
theorem normq_eq {ds es : List Nat} {s : Bool} (h : OkD ds) (h' : OkD es) (hq : q = mkRat (sg s (val ds)) (val es)) :
    (((decide (s = decide (q.num < 0)) && decide (ds = digs q.num.natAbs)) && decide (es = digs q.den)) && decide (0 < es.length)) = normQB s ds es := by
  rw [Bool.eq_iff_iff]
  unfold normQB normIB
  simp only [Bool.and_eq_true, decide_eq_true_eq, normB_iff, Bool.not_eq_true', decide_eq_false_iff_not]
  constructor
  · rintro ⟨⟨⟨h1, h2⟩, h3⟩, h4⟩
    have e1 : val ds = q.num.natAbs := by rw [h2, val_digs]
    have e2 : val es = q.den := by rw [h3, val_digs]
    refine ⟨⟨by rw [h2]; exact nrm_digs _, ?_⟩, by rw [h3]; exact nrm_digs _, by rw [e2]; exact q.den_nz, by rw [e1, e2]; exact q.reduced⟩
    rw [h1]
    by_cases hn : q.num < 0
    · have h5 := digs_length_pos (x := q.num.natAbs) (by omega)
      rw [← h2] at h5
      have h6 : (ds.length == 0) = false := by rw [beq_eq_false_iff_ne]; omega
      rw [h6]; simp
    · rw [decide_eq_false hn]; simp
  · rintro ⟨⟨h1, h2⟩, h3, h4, h5⟩
    have hg : Nat.gcd (sg s (val ds)).natAbs (val es) = 1 := by
      have e : (sg s (val ds)).natAbs = val ds := by cases s <;> simp [sg]
      rw [e]; exact h5
    have e1 : q.num = sg s (val ds) := by rw [hq, mk_num h4, hg]; simp
    have e2 : q.den = val es := by rw [hq, mk_den h4, hg]; simp
    have e3 : q.num.natAbs = val ds := by rw [e1]; cases s <;> simp [sg]
    have hp : 0 < es.length := by
      rcases es with _ | ⟨d, t⟩
      · exact absurd rfl h4
      · simp
    refine ⟨⟨⟨?_, by rw [e3, digs_val h h1]⟩, by rw [e2, digs_val h' h3]⟩, hp⟩
    rw [e1]
    cases s
    · rw [sg_false]; simp
    · rw [sg_true]
      have hd : ds ≠ [] := by rintro rfl; simp at h2
      have := val_pos_of_nrm h1 hd
      simp; omega
theorem NQ.raw1 {v u : Value} (h : NQ w s0 v u q L) : Raw w v (digs q.num.natAbs) := h.1.1.1
theorem NQ.raw2 {v u : Value} (h : NQ w s0 v u q L) : Raw w u (digs q.den) := h.2.1
theorem sameq_n {ds es : List Nat} {b : Bool} (h : Raw w (.slice A0 n0 c0) ds) (h' : Raw w (.slice D0 m0 e0) es) (h3 : NQ w s1 (.slice A1 n1 c1) (.slice D1 m1 e1) q L) (hb : ((decide (s0 = decide (q.num < 0)) && decide (ds = digs q.num.natAbs)) && decide (es = digs q.den)) = b) :
    Calls Tryz.prog 40 #[.agg #[.bool s0, .slice A0 n0 c0, .slice D0 m0 e0], .agg #[.bool s1, .slice A1 n1 c1, .slice D1 m1 e1]] w fun e w' => e = .returned (.bool b) ∧ Below w.heap.size w w' := by
  subst hb
  rw [← h3.1.2]
  exact sameq_r h h' h3.raw1 h3.raw2
set_option maxRecDepth 100000 in
set_option maxHeartbeats 800000 in
theorem normalq_r {ds es : List Nat} (h : Raw w (.slice A0 n0 c0) ds) (h' : Raw w (.slice D0 m0 e0) es) (hl : ds.length ≤ 900) (hl' : es.length ≤ 900) :
    Calls Tryz.prog 46 #[.agg #[.bool s0, .slice A0 n0 c0, .slice D0 m0 e0]] w fun e w' => e = .returned (.bool (normQB s0 ds es)) ∧ Below w.heap.size w w' := by
  obtain ⟨L, hL1, hL2, hL⟩ : ∃ L, ds.length ≤ L ∧ es.length ≤ L ∧ L ≤ 900 := ⟨max ds.length es.length, by omega, by omega, by omega⟩
  have hr : RQ w s0 (.slice A0 n0 c0) (.slice D0 m0 e0) (mkRat (sg s0 (val ds)) (val es)) L := ⟨_, _, ⟨_, h.rv.more hL1, rfl⟩, h'.rv.more hL2, rfl⟩
  have HE := Lib.hid (normq_eq (s := s0) h.okD h'.okD rfl)
  have HM := Lib.hid h'.cap.1
  generalize mkRat (sg s0 (val ds)) (val es) = q at HE hr
  obtain ⟨b, hb⟩ : ∃ b, ((decide (s0 = decide (q.num < 0)) && decide (ds = digs q.num.natAbs)) && decide (es = digs q.den)) = b := ⟨_, rfl⟩
  have HB := Lib.hid hb
  clear hl hl' hL1 hL2 hb
  cases b
  · skip
    go_enter Tryz.func46, Tryz.ntmps46
    go_wp2_with fail
    obtain ⟨W0, hW, b0, hbW, hszW0⟩ := boxes1 w #[.bool s0, .slice A0 n0 c0, .slice D0 m0 e0] 28
    rw [hW]
    clear hW
    replace h := h.below hbW
    replace h' := h'.below hbW
    replace hr := hr.below hbW
    have H0 := hbW
    clear hbW
    have hD := drawn_below W0
    replace h := h.below hD
    replace h' := h'.below hD
    replace hr := hr.below hD
    replace b0 := b0.below hD
    replace H0 := H0.trans (hD.mono H0.size)
    clear hD
    refine wp_region_noPanic ?_
    refine wp_region_held_drew (S := (fun V => V.cell? ⟨w.heap.size, 0, none⟩ = some (.bool s0) ∧ V.cell? ⟨w.heap.size, 1, none⟩ = some (.slice A0 n0 c0) ∧ V.cell? ⟨w.heap.size, 2, none⟩ = some (.slice D0 m0 e0))) (by kernel_rfl) ⟨b0.cell 0 _ rfl, b0.cell 1 _ rfl, b0.cell 2 _ rfl⟩ (fun hHeld => ?_)
    generalize W0.drew = v1 at H0 hHeld h h' hr b0 ⊢
    refine wpAnyH_take (i := 0) (v := ?_) rfl (by kernel_rfl) (by kernel_rfl) (by kernel_rfl) (fun _ _ _ h => h) (Or.inl ⟨by rfl, ?_⟩) (by assumption) ?_
    rotate_left
    · (intro w hSw; (try dsimp only at hSw); go_simp; (try with_reducible rfl))
    (try simp only [List.getElem_toArray, List.getElem_cons_zero, Act.put, List.setIfInBounds_toArray, List.set_cons_zero, List.set_cons_succ])
    refine wpAnyH_take (i := 1) (v := ?_) rfl (by kernel_rfl) (by kernel_rfl) (by kernel_rfl) (fun _ _ _ h => h) (Or.inl ⟨by rfl, ?_⟩) (by assumption) ?_
    rotate_left
    · (intro w hSw; (try dsimp only at hSw); go_simp; (try with_reducible rfl))
    (try simp only [List.getElem_toArray, List.getElem_cons_succ, List.getElem_cons_zero, Act.put, List.setIfInBounds_toArray, List.set_cons_zero, List.set_cons_succ])
    refine wpAnyH_ready (rs := [2]) (by kernel_rfl) (by simp) (AllReadyH.cons (o := _) rfl (fun K hK => ?_) AllReadyH.nil)
    go_simp
    go_at_call 20
    refine (refq_v hr (by omega)).mono ?_
    rintro e w2 ⟨s2, A2, n2, c2, D2, m2, e2, rfl, f2, hb⟩
    replace h := h.below hb
    replace h' := h'.below hb
    replace hr := hr.below hb
    replace b0 := b0.below hb
    replace H0 := H0.trans (hb.mono H0.size)
    clear hb
    clear hr
    go_wp2_with fail
    refine hK.out _ _ ⟨b0.cell 0 _ rfl, b0.cell 1 _ rfl, b0.cell 2 _ rfl⟩ (fun hHeld => ?_)
    clear hK K
    (try simp only [List.getElem_toArray, List.getElem_cons_succ, List.getElem_cons_zero, Act.put, List.setIfInBounds_toArray, List.set_cons_zero, List.set_cons_succ])
    refine wpAnyH_ready (rs := [3]) (by kernel_rfl) (by simp) (AllReadyH.cons (o := _) rfl (fun K hK => ?_) AllReadyH.nil)
    go_simp
    go_at_call 31
    refine (toq_v f2 (by omega)).mono ?_
    rintro e w3 ⟨s3, A3, n3, c3, D3, m3, e3, rfl, f3, hb⟩
    replace h := h.below hb
    replace h' := h'.below hb
    replace f2 := f2.below hb
    replace b0 := b0.below hb
    replace H0 := H0.trans (hb.mono H0.size)
    clear hb
    clear f2
    go_wp2_with fail
    refine hK.out _ _ ⟨b0.cell 0 _ rfl, b0.cell 1 _ rfl, b0.cell 2 _ rfl⟩ (fun hHeld => ?_)
    clear hK K
    (try simp only [List.getElem_toArray, List.getElem_cons_succ, List.getElem_cons_zero, Act.put, List.setIfInBounds_toArray, List.set_cons_zero, List.set_cons_succ])
    refine wpAnyH_ready (rs := [4]) (by kernel_rfl) (by simp) (AllReadyH.cons (o := _) rfl (fun K hK => ?_) AllReadyH.nil)
    go_simp
    go_at_call 40
    refine (sameq_n h h' f3 HB.out).mono ?_
    rintro e w4 ⟨rfl, hb⟩
    replace h := h.below hb
    replace h' := h'.below hb
    replace f3 := f3.below hb
    replace b0 := b0.below hb
    replace H0 := H0.trans (hb.mono H0.size)
    clear hb
    clear f3
    go_wp2_with fail
    refine hK.out _ _ ⟨b0.cell 0 _ rfl, b0.cell 1 _ rfl, b0.cell 2 _ rfl⟩ (fun hHeld => ?_)
    clear hK K
    (try simp only [List.getElem_toArray, List.getElem_cons_succ, List.getElem_cons_zero, Act.put, List.setIfInBounds_toArray, List.set_cons_zero, List.set_cons_succ])
    refine wpAnyH_take (i := 5) (v := ?_) rfl (by kernel_rfl) (by kernel_rfl) (by kernel_rfl) (fun _ _ _ h => h) (Or.inl ⟨by rfl, ?_⟩) (by assumption) ?_
    rotate_left
    · (intro w hSw; (try dsimp only at hSw); go_simp; (try with_reducible rfl))
    (try simp only [List.getElem_toArray, List.getElem_cons_succ, List.getElem_cons_zero, Act.put, List.setIfInBounds_toArray, List.set_cons_zero, List.set_cons_succ])
    refine wpAnyH_take (i := 6) (v := undef) rfl (by kernel_rfl) (by kernel_rfl) (by kernel_rfl) (fun _ _ _ h => h) (Or.inr ⟨by rfl, rfl⟩) (by assumption) ?_
    (try simp only [List.getElem_toArray, List.getElem_cons_succ, List.getElem_cons_zero, Act.put, List.setIfInBounds_toArray, List.set_cons_zero, List.set_cons_succ])
    refine wpAnyH_take (i := 7) (v := undef) rfl (by kernel_rfl) (by kernel_rfl) (by kernel_rfl) (fun _ _ _ h => h) (Or.inr ⟨by rfl, rfl⟩) (by assumption) ?_
    (try simp only [List.getElem_toArray, List.getElem_cons_succ, List.getElem_cons_zero, Act.put, List.setIfInBounds_toArray, List.set_cons_zero, List.set_cons_succ])
    refine wpAnyH_take (i := 8) (v := undef) rfl (by kernel_rfl) (by kernel_rfl) (by kernel_rfl) (fun _ _ _ h => h) (Or.inr ⟨by rfl, rfl⟩) (by assumption) ?_
    (try simp only [List.getElem_toArray, List.getElem_cons_succ, List.getElem_cons_zero, Act.put, List.setIfInBounds_toArray, List.set_cons_zero, List.set_cons_succ])
    refine wpAnyH_take (i := 9) (v := undef) rfl (by kernel_rfl) (by kernel_rfl) (by kernel_rfl) (fun _ _ _ h => h) (Or.inr ⟨by rfl, rfl⟩) (by assumption) ?_
    (try simp only [List.getElem_toArray, List.getElem_cons_succ, List.getElem_cons_zero, Act.put, List.setIfInBounds_toArray, List.set_cons_zero, List.set_cons_succ])
    refine wpAnyH_take (i := 10) (v := ?_) rfl (by kernel_rfl) (by kernel_rfl) (by kernel_rfl) (fun _ _ _ h => h) (Or.inl ⟨by rfl, ?_⟩) (by assumption) ?_
    rotate_left
    · (intro w hSw; (try dsimp only at hSw); go_simp; (try with_reducible rfl))
    (try simp only [List.getElem_toArray, List.getElem_cons_succ, List.getElem_cons_zero, Act.put, List.setIfInBounds_toArray, List.set_cons_zero, List.set_cons_succ])
    refine wpAnyH_take (i := 11) (v := ?_) rfl (by kernel_rfl) (by kernel_rfl) (by kernel_rfl) (fun _ _ _ h => h) (Or.inl ⟨by rfl, ?_⟩) (by assumption) ?_
    rotate_left
    · (intro w hSw; (try dsimp only at hSw); go_simp; (try with_reducible rfl))
    (try simp only [List.getElem_toArray, List.getElem_cons_succ, List.getElem_cons_zero, Act.put, List.setIfInBounds_toArray, List.set_cons_zero, List.set_cons_succ])
    refine wpAnyH_done (by kernel_rfl) ?_ _
    refine NoPanic.normal ?_
    go_wp2_with fail
    go_returns
    exact ⟨by rw [← HE.out, HB.out, HM.out]; rfl, H0⟩
  · skip
    go_enter Tryz.func46, Tryz.ntmps46
    go_wp2_with fail
    obtain ⟨W0, hW, b0, hbW, hszW0⟩ := boxes1 w #[.bool s0, .slice A0 n0 c0, .slice D0 m0 e0] 28
    rw [hW]
    clear hW
    replace h := h.below hbW
    replace h' := h'.below hbW
    replace hr := hr.below hbW
    have H0 := hbW
    clear hbW
    have hD := drawn_below W0
    replace h := h.below hD
    replace h' := h'.below hD
    replace hr := hr.below hD
    replace b0 := b0.below hD
    replace H0 := H0.trans (hD.mono H0.size)
    clear hD
    refine wp_region_noPanic ?_
    refine wp_region_held_drew (S := (fun V => V.cell? ⟨w.heap.size, 0, none⟩ = some (.bool s0) ∧ V.cell? ⟨w.heap.size, 1, none⟩ = some (.slice A0 n0 c0) ∧ V.cell? ⟨w.heap.size, 2, none⟩ = some (.slice D0 m0 e0))) (by kernel_rfl) ⟨b0.cell 0 _ rfl, b0.cell 1 _ rfl, b0.cell 2 _ rfl⟩ (fun hHeld => ?_)
    generalize W0.drew = v1 at H0 hHeld h h' hr b0 ⊢
    refine wpAnyH_take (i := 0) (v := ?_) rfl (by kernel_rfl) (by kernel_rfl) (by kernel_rfl) (fun _ _ _ h => h) (Or.inl ⟨by rfl, ?_⟩) (by assumption) ?_
    rotate_left
    · (intro w hSw; (try dsimp only at hSw); go_simp; (try with_reducible rfl))
    (try simp only [List.getElem_toArray, List.getElem_cons_zero, Act.put, List.setIfInBounds_toArray, List.set_cons_zero, List.set_cons_succ])
    refine wpAnyH_take (i := 1) (v := ?_) rfl (by kernel_rfl) (by kernel_rfl) (by kernel_rfl) (fun _ _ _ h => h) (Or.inl ⟨by rfl, ?_⟩) (by assumption) ?_
    rotate_left
    · (intro w hSw; (try dsimp only at hSw); go_simp; (try with_reducible rfl))
    (try simp only [List.getElem_toArray, List.getElem_cons_succ, List.getElem_cons_zero, Act.put, List.setIfInBounds_toArray, List.set_cons_zero, List.set_cons_succ])
    refine wpAnyH_ready (rs := [2]) (by kernel_rfl) (by simp) (AllReadyH.cons (o := _) rfl (fun K hK => ?_) AllReadyH.nil)
    go_simp
    go_at_call 20
    refine (refq_v hr (by omega)).mono ?_
    rintro e w2 ⟨s2, A2, n2, c2, D2, m2, e2, rfl, f2, hb⟩
    replace h := h.below hb
    replace h' := h'.below hb
    replace hr := hr.below hb
    replace b0 := b0.below hb
    replace H0 := H0.trans (hb.mono H0.size)
    clear hb
    clear hr
    go_wp2_with fail
    refine hK.out _ _ ⟨b0.cell 0 _ rfl, b0.cell 1 _ rfl, b0.cell 2 _ rfl⟩ (fun hHeld => ?_)
    clear hK K
    (try simp only [List.getElem_toArray, List.getElem_cons_succ, List.getElem_cons_zero, Act.put, List.setIfInBounds_toArray, List.set_cons_zero, List.set_cons_succ])
    refine wpAnyH_ready (rs := [3]) (by kernel_rfl) (by simp) (AllReadyH.cons (o := _) rfl (fun K hK => ?_) AllReadyH.nil)
    go_simp
    go_at_call 31
    refine (toq_v f2 (by omega)).mono ?_
    rintro e w3 ⟨s3, A3, n3, c3, D3, m3, e3, rfl, f3, hb⟩
    replace h := h.below hb
    replace h' := h'.below hb
    replace f2 := f2.below hb
    replace b0 := b0.below hb
    replace H0 := H0.trans (hb.mono H0.size)
    clear hb
    clear f2
    go_wp2_with fail
    refine hK.out _ _ ⟨b0.cell 0 _ rfl, b0.cell 1 _ rfl, b0.cell 2 _ rfl⟩ (fun hHeld => ?_)
    clear hK K
    (try simp only [List.getElem_toArray, List.getElem_cons_succ, List.getElem_cons_zero, Act.put, List.setIfInBounds_toArray, List.set_cons_zero, List.set_cons_succ])
    refine wpAnyH_ready (rs := [4]) (by kernel_rfl) (by simp) (AllReadyH.cons (o := _) rfl (fun K hK => ?_) AllReadyH.nil)
    go_simp
    go_at_call 40
    refine (sameq_n h h' f3 HB.out).mono ?_
    rintro e w4 ⟨rfl, hb⟩
    replace h := h.below hb
    replace h' := h'.below hb
    replace f3 := f3.below hb
    replace b0 := b0.below hb
    replace H0 := H0.trans (hb.mono H0.size)
    clear hb
    clear f3
    go_wp2_with fail
    refine hK.out _ _ ⟨b0.cell 0 _ rfl, b0.cell 1 _ rfl, b0.cell 2 _ rfl⟩ (fun hHeld => ?_)
    clear hK K
    (try simp only [List.getElem_toArray, List.getElem_cons_succ, List.getElem_cons_zero, Act.put, List.setIfInBounds_toArray, List.set_cons_zero, List.set_cons_succ])
    refine wpAnyH_take (i := 5) (v := ?_) rfl (by kernel_rfl) (by kernel_rfl) (by kernel_rfl) (fun _ _ _ h => h) (Or.inl ⟨by rfl, ?_⟩) (by assumption) ?_
    rotate_left
    · (intro w hSw; (try dsimp only at hSw); go_simp; (try with_reducible rfl))
    (try simp only [List.getElem_toArray, List.getElem_cons_succ, List.getElem_cons_zero, Act.put, List.setIfInBounds_toArray, List.set_cons_zero, List.set_cons_succ])
    refine wpAnyH_take (i := 6) (v := ?_) rfl (by kernel_rfl) (by kernel_rfl) (by kernel_rfl) (fun _ _ _ h => h) (Or.inl ⟨by rfl, ?_⟩) (by assumption) ?_
    rotate_left
    · (intro w hSw; (try dsimp only at hSw); go_simp; (try with_reducible rfl))
    (try simp only [List.getElem_toArray, List.getElem_cons_succ, List.getElem_cons_zero, Act.put, List.setIfInBounds_toArray, List.set_cons_zero, List.set_cons_succ])
    refine wpAnyH_take (i := 7) (v := ?_) rfl (by kernel_rfl) (by kernel_rfl) (by kernel_rfl) (fun _ _ _ h => h) (Or.inl ⟨by rfl, ?_⟩) (by assumption) ?_
    rotate_left
    · (intro w hSw; (try dsimp only at hSw); go_simp; (try with_reducible rfl))
    (try simp only [List.getElem_toArray, List.getElem_cons_succ, List.getElem_cons_zero, Act.put, List.setIfInBounds_toArray, List.set_cons_zero, List.set_cons_succ])
    refine wpAnyH_take (i := 8) (v := ?_) rfl (by kernel_rfl) (by kernel_rfl) (by kernel_rfl) (fun _ _ _ h => h) (Or.inl ⟨by rfl, ?_⟩) (by assumption) ?_
    rotate_left
    · (intro w hSw; (try dsimp only at hSw); go_simp; (try with_reducible rfl))
    (try simp only [List.getElem_toArray, List.getElem_cons_succ, List.getElem_cons_zero, Act.put, List.setIfInBounds_toArray, List.set_cons_zero, List.set_cons_succ])
    refine wpAnyH_take (i := 9) (v := ?_) rfl (by kernel_rfl) (by kernel_rfl) (by kernel_rfl) (fun _ _ _ h => h) (Or.inl ⟨by rfl, ?_⟩) (by assumption) ?_
    rotate_left
    · (intro w hSw; (try dsimp only at hSw); go_simp; (try with_reducible rfl))
    (try simp only [List.getElem_toArray, List.getElem_cons_succ, List.getElem_cons_zero, Act.put, List.setIfInBounds_toArray, List.set_cons_zero, List.set_cons_succ])
    refine wpAnyH_take (i := 10) (v := ?_) rfl (by kernel_rfl) (by kernel_rfl) (by kernel_rfl) (fun _ _ _ h => h) (Or.inl ⟨by rfl, ?_⟩) (by assumption) ?_
    rotate_left
    · (intro w hSw; (try dsimp only at hSw); go_simp; (try with_reducible rfl))
    (try simp only [List.getElem_toArray, List.getElem_cons_succ, List.getElem_cons_zero, Act.put, List.setIfInBounds_toArray, List.set_cons_zero, List.set_cons_succ])
    refine wpAnyH_take (i := 11) (v := ?_) rfl (by kernel_rfl) (by kernel_rfl) (by kernel_rfl) (fun _ _ _ h => h) (Or.inl ⟨by rfl, ?_⟩) (by assumption) ?_
    rotate_left
    · (intro w hSw; (try dsimp only at hSw); go_simp; (try with_reducible rfl))
    (try simp only [List.getElem_toArray, List.getElem_cons_succ, List.getElem_cons_zero, Act.put, List.setIfInBounds_toArray, List.set_cons_zero, List.set_cons_succ])
    refine wpAnyH_done (by kernel_rfl) ?_ _
    refine NoPanic.normal ?_
    go_wp2_with fail
    go_returns
    exact ⟨by rw [← HE.out, HB.out, HM.out]; simp, H0⟩
end
end Go.Proofs.YtpgkkkodniiilaaGreatDoor
