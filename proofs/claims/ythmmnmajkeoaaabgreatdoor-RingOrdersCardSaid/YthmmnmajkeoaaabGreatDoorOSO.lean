/-
  SoA, SoB in one text.
-/
import Derived.Test.YthmmnmajkeoaaabGreatDoorORO
import Derived.Test.YthmmnmajkeoaaabGreatDoorORgK
import Derived.IntWalk
import Derived.Deep.Cut
namespace Go.Proofs.YthmmnmajkeoaaabGreatDoor
section
/-- Ascending, each once. -/
def AscP (l : List (Rat × Rat)) : Prop := l.Pairwise ptLt
theorem AscP.ins {l : List (Rat × Rat)} {p : Rat × Rat} {i : Nat} (h : AscP l) (hlo : ∀ t x, t < i → l[t]? = some x → ptLt x p) (hhi : ∀ x, l[i]? = some x → ptLt p x) : AscP (l.take i ++ p :: l.drop i) := by
  unfold AscP at h ⊢
  have h' : List.Pairwise ptLt (l.take i ++ l.drop i) := by rwa [List.take_append_drop]
  obtain ⟨h1, h2, h3⟩ := List.pairwise_append.1 h'
  have hp : ∀ x ∈ l.drop i, ptLt p x := by
    intro x hx
    rcases Nat.lt_or_ge i l.length with h5 | h5
    · rw [List.drop_eq_getElem_cons h5] at hx h2
      have h6 := hhi l[i] (List.getElem?_eq_getElem h5)
      rcases List.mem_cons.1 hx with rfl | hx
      · exact h6
      · exact ptLt_tot.trans h6 ((List.pairwise_cons.1 h2).1 x hx)
    · rw [List.drop_of_length_le h5] at hx; cases hx
  refine List.pairwise_append.2 ⟨h1, List.pairwise_cons.2 ⟨hp, h2⟩, fun a ha b hb => ?_⟩
  rcases List.mem_cons.1 hb with rfl | hb
  · obtain ⟨t, ht, e⟩ := List.getElem_of_mem ha
    rw [List.length_take] at ht
    have e2 : l[t]? = some a := by rw [List.getElem?_eq_getElem (by omega), ← e, List.getElem_take]
    exact hlo t a (by omega) e2
  · exact h3 a ha b hb
theorem AscP.nodup {l : List (Rat × Rat)} (h : AscP l) : l.Nodup := List.Pairwise.imp (fun hl he => by subst he; exact ptLt_tot.irr _ hl) h
/-- A round trip of points, each other than the next one, with three points, does not run to and fro. -/
theorem opens_of {l : List (Rat × Rat)} {us : List (Rat × Rat)} (h3 : 3 ≤ us.length) (hn : us.Nodup) (hs : ∀ x ∈ us, x ∈ l) : opensP l = true := by
  cases ho : opensP l with
  | true => rfl
  | false =>
    exfalso
    unfold opensP at ho
    rw [List.any_eq_false] at ho
    have hpos : 0 < l.length := by
      rcases Nat.eq_zero_or_pos l.length with h0 | h0
      · have h1 := List.eq_nil_of_length_eq_zero h0
        subst h1
        cases us with
        | nil => simp at h3
        | cons a t => cases hs a (List.mem_cons_self ..)
      · exact h0
    have heq : ∀ i, i < l.length → l.getD ((i + l.length - 1) % l.length) (0, 0) = l.getD ((i + 1) % l.length) (0, 0) := fun i hi => by
      have := ho i (List.mem_range.2 hi)
      simpa using this
    -- every vertex is the first or the second one
    have hall : ∀ i, i < l.length → l.getD i (0, 0) = l.getD 0 (0, 0) ∨ l.getD i (0, 0) = l.getD (1 % l.length) (0, 0) := by
      intro i
      induction i using Nat.strongRecOn with
      | _ i ih =>
        intro hi
        rcases Nat.lt_or_ge i 2 with h2 | h2
        · rcases Nat.lt_or_ge i 1 with h1 | h1
          · left; rw [show i = 0 by omega]
          · right; rw [show i = 1 by omega, Nat.mod_eq_of_lt (by omega)]
        · have h5 := heq (i - 1) (by omega)
          rw [show i - 1 + 1 = i by omega, Nat.mod_eq_of_lt hi, Nat.mod_eq_sub_mod (by omega), Nat.mod_eq_of_lt (by omega), show i - 1 + l.length - 1 - l.length = i - 2 by omega] at h5
          rw [← h5]
          exact ih (i - 2) (by omega) (by omega)
    have hmem : ∀ x ∈ l, x = l.getD 0 (0, 0) ∨ x = l.getD (1 % l.length) (0, 0) := fun x hx => by
      obtain ⟨i, hi, e⟩ := List.getElem_of_mem hx
      have := hall i hi
      rw [List.getD_eq_getElem?_getD, List.getElem?_eq_getElem hi, Option.getD_some, e] at this
      exact this
    match us, h3, hn, hs with
    | a :: b :: c :: t, _, hn, hs =>
      obtain ⟨h1, h2⟩ := List.nodup_cons.1 hn
      obtain ⟨h3, _⟩ := List.nodup_cons.1 h2
      have ha := hmem a (hs a (by simp))
      have hb := hmem b (hs b (by simp))
      have hc := hmem c (hs c (by simp))
      have hab : a ≠ b := fun e => h1 (by rw [e]; simp)
      have hac : a ≠ c := fun e => h1 (by rw [e]; simp)
      have hbc : b ≠ c := fun e => h3 (by rw [e]; simp)
      rcases ha with ha | ha <;> rcases hb with hb | hb <;> rcases hc with hc | hc
      · exact hab (ha.trans hb.symm)
      · exact hab (ha.trans hb.symm)
      · exact hac (ha.trans hc.symm)
      · exact hbc (hb.trans hc.symm)
      · exact hbc (hb.trans hc.symm)
      · exact hac (ha.trans hc.symm)
      · exact hab (ha.trans hb.symm)
      · exact hab (ha.trans hb.symm)
theorem stops_of {l : List (Rat × Rat)} (h : ∀ i, i < l.length → ¬ l.getD i (0, 0) = l.getD ((i + 1) % l.length) (0, 0)) : stopsP l = false := by
  unfold stopsP
  rw [List.any_eq_false]
  intro i hi
  have := h i (List.mem_range.1 hi)
  simpa using this
end
end Go.Proofs.YthmmnmajkeoaaabGreatDoor
namespace Go.Proofs.YthmmnmajkeoaaabGreatDoor
open Go.RowKit
section
variable {w : World} {L : Nat}
theorem box_row {g : Nat} {t : TypeId} {x : PP} (h : Box w g #[.bool x.s0, .slice x.A0 x.n0 x.c0, .slice x.D0 x.m0 x.e0, .bool x.s1, .slice x.A1 x.n1 x.c1, .slice x.D1 x.m1 x.e1] t) : ReadR w 6 (.slice (some ⟨g, 0, none⟩) 1 1) (rowsP [x]) := box_read (zs := [x]) h (by show 1 ≤ maxLen; decide)
theorem part3_pp {g o n c : Nat} {zs : List PP} (hS : ReadR w 6 (.slice (some ⟨g, o, none⟩) n c) (rowsP zs)) {j : Nat} (hj : j ≤ n) : ReadR w 6 (.slice (some ⟨g, o, none⟩) j j) (rowsP (zs.take j)) := by
  have hn : n ≤ c := by obtain ⟨_, _, _, e1, h1, _⟩ := hS; injection e1 with _ e2 e3; omega
  have h := hS.part (i := 0) (j := j) (Nat.zero_le _) hj (m := j) (Nat.le_refl _) (by omega)
  simp only [Option.map_some, Addr.add_lit, Nat.zero_mul, Nat.add_zero, Nat.sub_zero, List.drop_zero] at h
  unfold rowsP at h ⊢
  rw [List.map_take]
  exact h
theorem read_nil {A : Option Addr} {c : Nat} (hc : c ≤ maxLen) (w : World) : ReadR w 6 (.slice A 0 c) (rowsP []) := ⟨fun cs h => (by cases h), A, c, rfl, Nat.zero_le _, hc, fun h => absurd rfl h⟩
theorem rowsP_one (zs : List PP) : ∀ cs ∈ rowsP zs, ∀ u ∈ cs, u.oneCell' = true := fun cs h u hu => (rowsP_cells zs cs h u hu).1
set_option maxRecDepth 100000 in
set_option maxHeartbeats 8000000 in
theorem sortedp_v {A : Option Addr} {n c : Nat} {zs : List PP} (hS : ReadR w 6 (.slice A n c) (rowsP zs)) (hF : FP w L zs) (hn : zs.length ≤ 1000) (hL : L ≤ 100) :
    Calls Tryz.prog 22 #[.slice A n c] w fun e w' => ∃ (A' : Option Addr) (c' : Nat) (us : List PP), e = .returned (.slice A' us.length c') ∧ AscP (us.map PP.pt) ∧ (∀ x ∈ us.map PP.pt, x ∈ zs.map PP.pt) ∧ us.length ≤ zs.length ∧ Below w.heap.size w w' := by
  obtain rfl := pp_len hS
  go_enter Tryz.func22, Tryz.ntmps22
  go_wp2_with fail
  go_loopw [3, 9] (fun t3 t9 wr => ∃ (i : Nat) (A9 : Option Addr) (c9 : Nat) (us : List PP), i ≤ zs.length ∧ t9 = .int .i64 (i : Int) ∧ t3 = .slice A9 us.length c9 ∧ (us.length = 0 → A9 = none ∧ c9 = 0) ∧ ReadR wr 6 (.slice A9 us.length c9) (rowsP us) ∧ FP wr L us ∧ AscP (us.map PP.pt) ∧ (∀ x ∈ us.map PP.pt, x ∈ zs.map PP.pt) ∧ us.length ≤ i ∧ Below w.heap.size w wr) (fun _ t9 _ => zs.length - (intOf t9).toNat)
  case atStart => exact ⟨0, none, 0, [], Nat.zero_le _, rfl, rfl, (fun _ => ⟨rfl, rfl⟩), (OwnE.nil w 0 51 6).read, (fun _ h => by cases h), List.Pairwise.nil, (fun x h => by cases h), Nat.le_refl _, Below.refl _ _⟩
  case round =>
    obtain ⟨i, A9, c9, us, hi, rfl, rfl, hz0, hB, hFB, hasc, hsub, hul, H0⟩ := hrel
    have HASC := Lib.hid hasc
    have HSUB := Lib.hid hsub
    have HZ0 := Lib.hid hz0
    clear hasc hsub hz0
    by_cases hlt : i < zs.length
    · obtain ⟨y, hy⟩ : ∃ s, zs[i]? = some s := ⟨_, List.getElem?_eq_getElem hlt⟩
      have HYM : Hid (y.pt ∈ zs.map PP.pt) := Lib.hid (List.mem_map_of_mem (List.mem_of_getElem? hy))
      obtain ⟨g, o, rfl, e0, e1, e2, e3, e4, e5⟩ := pp_elem (hS.below H0) hy
      obtain ⟨q0, q1⟩ := (hF.below H0) y (List.mem_of_getElem? hy)
      clear hy hS hF
      unfold CellF at e0 e1 e2 e3 e4 e5
      obtain ⟨wo, hW, b5, hbW, hsz⟩ := boxes1 wr #[.bool y.s0, .slice y.A0 y.n0 y.c0, .slice y.D0 y.m0 y.e0, .bool y.s1, .slice y.A1 y.n1 y.c1, .slice y.D1 y.m1 y.e1] 51
      replace hB := hB.below hbW
      replace hFB := hFB.below hbW
      replace q0 := q0.below hbW
      replace q1 := q1.below hbW
      replace H0 := H0.trans (hbW.mono H0.size)
      have wi1 : IntKind.i64.wrap ((i : Int) + 1) = (i : Int) + 1 := IntWalk.i64_in _ (by omega)
      clear hsz hbW
      go_wp2_with fail
      clear hW e0 e1 e2 e3 e4 e5
      obtain ⟨gb, hgb⟩ : ∃ gb, wr.heap.size = gb := ⟨_, rfl⟩
      rw [hgb] at b5 ⊢
      clear hgb
      go_loopw [6] (fun t6 wi => ∃ (k : Nat), k ≤ us.length ∧ t6 = .int .i64 (k : Int) ∧ (∀ t x, t < k → (us.map PP.pt)[t]? = some x → ptLt x y.pt) ∧ ReadR wi 6 (.slice A9 us.length c9) (rowsP us) ∧ FP wi L us ∧ PQ wi y.s0 (.slice y.A0 y.n0 y.c0) (.slice y.D0 y.m0 y.e0) y.q0 L ∧ PQ wi y.s1 (.slice y.A1 y.n1 y.c1) (.slice y.D1 y.m1 y.e1) y.q1 L ∧ Box wi gb #[.bool y.s0, .slice y.A0 y.n0 y.c0, .slice y.D0 y.m0 y.e0, .bool y.s1, .slice y.A1 y.n1 y.c1, .slice y.D1 y.m1 y.e1] 51 ∧ Below w.heap.size w wi) (fun t6 _ => us.length - (intOf t6).toNat)
      case atStart => exact ⟨0, Nat.zero_le _, rfl, (fun t x ht => by omega), hB, hFB, q0, q1, b5, H0⟩
      case round =>
        clear hB hFB q0 q1 b5 H0
        obtain ⟨k, hk, rfl, hlo, hB, hFB, q0, q1, b5, H0⟩ := hrel
        have HLO := Lib.hid hlo
        clear hlo
        have wk1 : IntKind.i64.wrap ((k : Int) + 1) = (k : Int) + 1 := IntWalk.i64_in _ (by omega)
        have hcm : us.length ≤ c9 ∧ c9 ≤ maxLen := by obtain ⟨_, _, _, e1, h1, h2, _⟩ := hB; injection e1 with _ e2 e3; rw [rowsP_len] at h1; omega
        obtain ⟨hc9, hcx⟩ := hcm
        by_cases hlk : k < us.length
        · have dk : decide ((k : Int) < (us.length : Int)) = true := decide_eq_true (by omega)
          have dk2 : ((k : Int) == (us.length : Int)) = false := by rw [beq_eq_false_iff_ne]; omega
          obtain ⟨x, hx⟩ : ∃ s, us[k]? = some s := ⟨_, List.getElem?_eq_getElem hlk⟩
          have HXK : Hid ((us.map PP.pt)[k]? = some x.pt) := Lib.hid (by rw [List.getElem?_map, hx]; rfl)
          obtain ⟨g', o', rfl, f0, f1, f2, f3, f4, f5⟩ := pp_elem hB hx
          obtain ⟨p0, p1⟩ := hFB x (List.mem_of_getElem? hx)
          clear hx HZ0
          obtain ⟨kc, hc⟩ : ∃ k, cmpQ x.q0 x.q1 y.q0 y.q1 = k := ⟨_, rfl⟩
          have HC := Lib.hid hc
          clear hc
          go_upto_region 6 with fail
          have hD := drawn_below wr
          replace p0 := p0.below hD
          replace p1 := p1.below hD
          replace q0 := q0.below hD
          replace q1 := q1.below hD
          replace hB := hB.below hD
          replace hFB := hFB.below hD
          replace f0 := f0.below hD
          replace f1 := f1.below hD
          replace f2 := f2.below hD
          replace f3 := f3.below hD
          replace f4 := f4.below hD
          replace f5 := f5.below hD
          replace b5 := b5.below hD
          replace H0 := H0.trans (hD.mono H0.size)
          clear hD
          refine wp_region_noPanic ?_
          refine wp_region_held_drew (S := (fun V => V.cell? ⟨gb, 0, none⟩ = some (.bool y.s0) ∧ V.cell? ⟨gb, 1, none⟩ = some (.slice y.A0 y.n0 y.c0) ∧ V.cell? ⟨gb, 2, none⟩ = some (.slice y.D0 y.m0 y.e0) ∧ V.cell? ⟨gb, 3, none⟩ = some (.bool y.s1) ∧ V.cell? ⟨gb, 4, none⟩ = some (.slice y.A1 y.n1 y.c1) ∧ V.cell? ⟨gb, 5, none⟩ = some (.slice y.D1 y.m1 y.e1) ∧ V.cell? ⟨g', o' + k * 6, none⟩ = some (.bool x.s0) ∧ V.cell? ⟨g', o' + k * 6 + 1, none⟩ = some (.slice x.A0 x.n0 x.c0) ∧ V.cell? ⟨g', o' + k * 6 + 2, none⟩ = some (.slice x.D0 x.m0 x.e0) ∧ V.cell? ⟨g', o' + k * 6 + 3, none⟩ = some (.bool x.s1) ∧ V.cell? ⟨g', o' + k * 6 + 4, none⟩ = some (.slice x.A1 x.n1 x.c1) ∧ V.cell? ⟨g', o' + k * 6 + 5, none⟩ = some (.slice x.D1 x.m1 x.e1))) (by kernel_rfl) ⟨b5.cell 0 _ rfl, b5.cell 1 _ rfl, b5.cell 2 _ rfl, b5.cell 3 _ rfl, b5.cell 4 _ rfl, b5.cell 5 _ rfl, f0.eq, f1.eq, f2.eq, f3.eq, f4.eq, f5.eq⟩ (fun hHeld => ?_)
          generalize wr.drew = v0 at H0 hHeld p0 p1 q0 q1 hB hFB f0 f1 f2 f3 f4 f5 b5 ⊢
          refine wpAnyH_take (i := 0) (v := ?_) rfl (by kernel_rfl) (by kernel_rfl) (by kernel_rfl) (fun _ _ _ h => h) (Or.inl ⟨by rfl, ?_⟩) (by assumption) ?_
          rotate_left
          · (intro w hSw; (try dsimp only at hSw); go_simp; (try with_reducible rfl))
          (try simp only [List.getElem_toArray, List.getElem_cons_zero, Act.put, List.setIfInBounds_toArray, List.set_cons_zero, List.set_cons_succ])
          refine wpAnyH_take (i := 1) (v := ?_) rfl (by kernel_rfl) (by kernel_rfl) (by kernel_rfl) (fun _ _ _ h => h) (Or.inl ⟨by rfl, ?_⟩) (by assumption) ?_
          rotate_left
          · (intro w hSw; (try dsimp only at hSw); go_simp; (try with_reducible rfl))
          (try simp only [List.getElem_toArray, List.getElem_cons_succ, List.getElem_cons_zero, Act.put, List.setIfInBounds_toArray, List.set_cons_zero, List.set_cons_succ])
          refine wpAnyH_take (i := 2) (v := ?_) rfl (by kernel_rfl) (by kernel_rfl) (by kernel_rfl) (fun _ _ _ h => h) (Or.inl ⟨by rfl, ?_⟩) (by assumption) ?_
          rotate_left
          · (intro w hSw; (try dsimp only at hSw); go_simp; (try with_reducible rfl))
          (try simp only [List.getElem_toArray, List.getElem_cons_succ, List.getElem_cons_zero, Act.put, List.setIfInBounds_toArray, List.set_cons_zero, List.set_cons_succ])
          refine wpAnyH_take (i := 3) (v := ?_) rfl (by kernel_rfl) (by kernel_rfl) (by kernel_rfl) (fun _ _ _ h => h) (Or.inl ⟨by rfl, ?_⟩) (by assumption) ?_
          rotate_left
          · (intro w hSw; (try dsimp only at hSw); go_simp; (try with_reducible rfl))
          (try simp only [List.getElem_toArray, List.getElem_cons_succ, List.getElem_cons_zero, Act.put, List.setIfInBounds_toArray, List.set_cons_zero, List.set_cons_succ])
          refine wpAnyH_take (i := 4) (v := ?_) rfl (by kernel_rfl) (by kernel_rfl) (by kernel_rfl) (fun _ _ _ h => h) (Or.inl ⟨by rfl, ?_⟩) (by assumption) ?_
          rotate_left
          · (intro w hSw; (try dsimp only at hSw); go_simp; (try with_reducible rfl))
          (try simp only [List.getElem_toArray, List.getElem_cons_succ, List.getElem_cons_zero, Act.put, List.setIfInBounds_toArray, List.set_cons_zero, List.set_cons_succ])
          refine wpAnyH_take (i := 5) (v := ?_) rfl (by kernel_rfl) (by kernel_rfl) (by kernel_rfl) (fun _ _ _ h => h) (Or.inl ⟨by rfl, ?_⟩) (by assumption) ?_
          rotate_left
          · (intro w hSw; (try dsimp only at hSw); go_simp; (try with_reducible rfl))
          (try simp only [List.getElem_toArray, List.getElem_cons_succ, List.getElem_cons_zero, Act.put, List.setIfInBounds_toArray, List.set_cons_zero, List.set_cons_succ])
          refine wpAnyH_take (i := 6) (v := ?_) rfl (by kernel_rfl) (by kernel_rfl) (by kernel_rfl) (fun _ _ _ h => h) (Or.inl ⟨by rfl, ?_⟩) (by assumption) ?_
          rotate_left
          · (intro w hSw; (try dsimp only at hSw); go_simp; (try with_reducible rfl))
          (try simp only [List.getElem_toArray, List.getElem_cons_succ, List.getElem_cons_zero, Act.put, List.setIfInBounds_toArray, List.set_cons_zero, List.set_cons_succ])
          refine wpAnyH_take (i := 9) (v := ?_) rfl (by kernel_rfl) (by kernel_rfl) (by kernel_rfl) (fun _ _ _ h => h) (Or.inl ⟨by rfl, ?_⟩) (by assumption) ?_
          rotate_left
          · (intro w hSw; (try dsimp only at hSw); go_simp; (try with_reducible rfl))
          (try simp only [List.getElem_toArray, List.getElem_cons_succ, List.getElem_cons_zero, Act.put, List.setIfInBounds_toArray, List.set_cons_zero, List.set_cons_succ])
          refine wpAnyH_take (i := 7) (v := ?_) rfl (by kernel_rfl) (by kernel_rfl) (by kernel_rfl) (fun _ _ _ h => h) (Or.inl ⟨by rfl, ?_⟩) (by assumption) ?_
          rotate_left
          · (intro w hSw; (try dsimp only at hSw); go_simp; (try with_reducible rfl))
          (try simp only [List.getElem_toArray, List.getElem_cons_succ, List.getElem_cons_zero, Act.put, List.setIfInBounds_toArray, List.set_cons_zero, List.set_cons_succ])
          refine wpAnyH_take (i := 8) (v := ?_) rfl (by kernel_rfl) (by kernel_rfl) (by kernel_rfl) (fun _ _ _ h => h) (Or.inl ⟨by rfl, ?_⟩) (by assumption) ?_
          rotate_left
          · (intro w hSw; (try dsimp only at hSw); go_simp; (try with_reducible rfl))
          (try simp only [List.getElem_toArray, List.getElem_cons_succ, List.getElem_cons_zero, Act.put, List.setIfInBounds_toArray, List.set_cons_zero, List.set_cons_succ])
          refine wpAnyH_ready (rs := [10]) (by kernel_rfl) (by simp) (AllReadyH.cons (o := _) rfl (fun K hK => ?_) AllReadyH.nil)
          go_simp
          go_at_call 35
          refine (gcompare_v p0 p1 q0 q1 hL hL HC.out).mono ?_
          rintro e w1 ⟨rfl, hb⟩
          replace p0 := p0.below hb
          replace p1 := p1.below hb
          replace q0 := q0.below hb
          replace q1 := q1.below hb
          replace hB := hB.below hb
          replace hFB := hFB.below hb
          replace f0 := f0.below hb
          replace f1 := f1.below hb
          replace f2 := f2.below hb
          replace f3 := f3.below hb
          replace f4 := f4.below hb
          replace f5 := f5.below hb
          replace b5 := b5.below hb
          replace H0 := H0.trans (hb.mono H0.size)
          clear hb
          go_wp2_with fail
          refine hK.out _ _ ⟨b5.cell 0 _ rfl, b5.cell 1 _ rfl, b5.cell 2 _ rfl, b5.cell 3 _ rfl, b5.cell 4 _ rfl, b5.cell 5 _ rfl, f0.eq, f1.eq, f2.eq, f3.eq, f4.eq, f5.eq⟩ (fun hHeld => ?_)
          clear hK K
          (try simp only [List.getElem_toArray, List.getElem_cons_succ, List.getElem_cons_zero, Act.put, List.setIfInBounds_toArray, List.set_cons_zero, List.set_cons_succ])
          refine wpAnyH_take (i := 11) (v := ?_) rfl (by kernel_rfl) (by kernel_rfl) (by kernel_rfl) (fun _ _ _ h => h) (Or.inl ⟨by rfl, ?_⟩) (by assumption) ?_
          rotate_left
          · (intro w hSw; (try dsimp only at hSw); go_simp; (try with_reducible rfl))
          (try simp only [List.getElem_toArray, List.getElem_cons_succ, List.getElem_cons_zero, Act.put, List.setIfInBounds_toArray, List.set_cons_zero, List.set_cons_succ])
          refine wpAnyH_take (i := 12) (v := ?_) rfl (by kernel_rfl) (by kernel_rfl) (by kernel_rfl) (fun _ _ _ h => h) (Or.inl ⟨by rfl, ?_⟩) (by assumption) ?_
          rotate_left
          · (intro w hSw; (try dsimp only at hSw); go_simp; (try with_reducible rfl))
          (try simp only [List.getElem_toArray, List.getElem_cons_succ, List.getElem_cons_zero, Act.put, List.setIfInBounds_toArray, List.set_cons_zero, List.set_cons_succ])
          refine wpAnyH_done (by kernel_rfl) ?_ _
          refine NoPanic.normal ?_
          rcases (cmpQ_lt (x := x) (y := y)) with ⟨e, hl⟩ | ⟨e, hl⟩ | ⟨e, hl⟩
          · rw [HC.out] at e
            subst e
            have HHI := Lib.hid hl
            clear hl
            go_upto_region 8 with fail
            have hD := drawn_below w1
            replace p0 := p0.below hD
            replace p1 := p1.below hD
            replace q0 := q0.below hD
            replace q1 := q1.below hD
            replace hB := hB.below hD
            replace hFB := hFB.below hD
            replace f0 := f0.below hD
            replace f1 := f1.below hD
            replace f2 := f2.below hD
            replace f3 := f3.below hD
            replace f4 := f4.below hD
            replace f5 := f5.below hD
            replace b5 := b5.below hD
            replace H0 := H0.trans (hD.mono H0.size)
            clear hD
            refine wp_region_noPanic ?_
            refine wp_region_held_drew (S := (fun V => V.cell? ⟨gb, 0, none⟩ = some (.bool y.s0) ∧ V.cell? ⟨gb, 1, none⟩ = some (.slice y.A0 y.n0 y.c0) ∧ V.cell? ⟨gb, 2, none⟩ = some (.slice y.D0 y.m0 y.e0) ∧ V.cell? ⟨gb, 3, none⟩ = some (.bool y.s1) ∧ V.cell? ⟨gb, 4, none⟩ = some (.slice y.A1 y.n1 y.c1) ∧ V.cell? ⟨gb, 5, none⟩ = some (.slice y.D1 y.m1 y.e1) ∧ V.cell? ⟨g', o' + k * 6, none⟩ = some (.bool x.s0) ∧ V.cell? ⟨g', o' + k * 6 + 1, none⟩ = some (.slice x.A0 x.n0 x.c0) ∧ V.cell? ⟨g', o' + k * 6 + 2, none⟩ = some (.slice x.D0 x.m0 x.e0) ∧ V.cell? ⟨g', o' + k * 6 + 3, none⟩ = some (.bool x.s1) ∧ V.cell? ⟨g', o' + k * 6 + 4, none⟩ = some (.slice x.A1 x.n1 x.c1) ∧ V.cell? ⟨g', o' + k * 6 + 5, none⟩ = some (.slice x.D1 x.m1 x.e1))) (by kernel_rfl) ⟨b5.cell 0 _ rfl, b5.cell 1 _ rfl, b5.cell 2 _ rfl, b5.cell 3 _ rfl, b5.cell 4 _ rfl, b5.cell 5 _ rfl, f0.eq, f1.eq, f2.eq, f3.eq, f4.eq, f5.eq⟩ (fun hHeld => ?_)
            generalize w1.drew = v2 at H0 hHeld p0 p1 q0 q1 hB hFB f0 f1 f2 f3 f4 f5 b5 ⊢
            refine wpAnyH_take (i := 0) (v := ?_) rfl (by kernel_rfl) (by kernel_rfl) (by kernel_rfl) (fun _ _ _ h => h) (Or.inl ⟨by rfl, ?_⟩) (by assumption) ?_
            rotate_left
            · (intro w hSw; (try dsimp only at hSw); go_simp; (try with_reducible rfl))
            (try simp only [List.getElem_toArray, List.getElem_cons_zero, Act.put, List.setIfInBounds_toArray, List.set_cons_zero, List.set_cons_succ])
            refine wpAnyH_take (i := 1) (v := ?_) rfl (by kernel_rfl) (by kernel_rfl) (by kernel_rfl) (fun _ _ _ h => h) (Or.inl ⟨by rfl, ?_⟩) (by assumption) ?_
            rotate_left
            · (intro w hSw; (try dsimp only at hSw); go_simp; (try with_reducible rfl))
            (try simp only [List.getElem_toArray, List.getElem_cons_succ, List.getElem_cons_zero, Act.put, List.setIfInBounds_toArray, List.set_cons_zero, List.set_cons_succ])
            refine wpAnyH_take (i := 2) (v := ?_) rfl (by kernel_rfl) (by kernel_rfl) (by kernel_rfl) (fun _ _ _ h => h) (Or.inl ⟨by rfl, ?_⟩) (by assumption) ?_
            rotate_left
            · (intro w hSw; (try dsimp only at hSw); go_simp; (try with_reducible rfl))
            (try simp only [List.getElem_toArray, List.getElem_cons_succ, List.getElem_cons_zero, Act.put, List.setIfInBounds_toArray, List.set_cons_zero, List.set_cons_succ])
            refine wpAnyH_take (i := 3) (v := ?_) rfl (by kernel_rfl) (by kernel_rfl) (by kernel_rfl) (fun _ _ _ h => h) (Or.inl ⟨by rfl, ?_⟩) (by assumption) ?_
            rotate_left
            · (intro w hSw; (try dsimp only at hSw); go_simp; (try with_reducible rfl))
            (try simp only [List.getElem_toArray, List.getElem_cons_succ, List.getElem_cons_zero, Act.put, List.setIfInBounds_toArray, List.set_cons_zero, List.set_cons_succ])
            refine wpAnyH_take (i := 4) (v := ?_) rfl (by kernel_rfl) (by kernel_rfl) (by kernel_rfl) (fun _ _ _ h => h) (Or.inl ⟨by rfl, ?_⟩) (by assumption) ?_
            rotate_left
            · (intro w hSw; (try dsimp only at hSw); go_simp; (try with_reducible rfl))
            (try simp only [List.getElem_toArray, List.getElem_cons_succ, List.getElem_cons_zero, Act.put, List.setIfInBounds_toArray, List.set_cons_zero, List.set_cons_succ])
            refine wpAnyH_take (i := 5) (v := ?_) rfl (by kernel_rfl) (by kernel_rfl) (by kernel_rfl) (fun _ _ _ h => h) (Or.inl ⟨by rfl, ?_⟩) (by assumption) ?_
            rotate_left
            · (intro w hSw; (try dsimp only at hSw); go_simp; (try with_reducible rfl))
            (try simp only [List.getElem_toArray, List.getElem_cons_succ, List.getElem_cons_zero, Act.put, List.setIfInBounds_toArray, List.set_cons_zero, List.set_cons_succ])
            refine wpAnyH_take (i := 6) (v := ?_) rfl (by kernel_rfl) (by kernel_rfl) (by kernel_rfl) (fun _ _ _ h => h) (Or.inl ⟨by rfl, ?_⟩) (by assumption) ?_
            rotate_left
            · (intro w hSw; (try dsimp only at hSw); go_simp; (try with_reducible rfl))
            (try simp only [List.getElem_toArray, List.getElem_cons_succ, List.getElem_cons_zero, Act.put, List.setIfInBounds_toArray, List.set_cons_zero, List.set_cons_succ])
            refine wpAnyH_take (i := 9) (v := ?_) rfl (by kernel_rfl) (by kernel_rfl) (by kernel_rfl) (fun _ _ _ h => h) (Or.inl ⟨by rfl, ?_⟩) (by assumption) ?_
            rotate_left
            · (intro w hSw; (try dsimp only at hSw); go_simp; (try with_reducible rfl))
            (try simp only [List.getElem_toArray, List.getElem_cons_succ, List.getElem_cons_zero, Act.put, List.setIfInBounds_toArray, List.set_cons_zero, List.set_cons_succ])
            refine wpAnyH_take (i := 7) (v := ?_) rfl (by kernel_rfl) (by kernel_rfl) (by kernel_rfl) (fun _ _ _ h => h) (Or.inl ⟨by rfl, ?_⟩) (by assumption) ?_
            rotate_left
            · (intro w hSw; (try dsimp only at hSw); go_simp; (try with_reducible rfl))
            (try simp only [List.getElem_toArray, List.getElem_cons_succ, List.getElem_cons_zero, Act.put, List.setIfInBounds_toArray, List.set_cons_zero, List.set_cons_succ])
            refine wpAnyH_take (i := 8) (v := ?_) rfl (by kernel_rfl) (by kernel_rfl) (by kernel_rfl) (fun _ _ _ h => h) (Or.inl ⟨by rfl, ?_⟩) (by assumption) ?_
            rotate_left
            · (intro w hSw; (try dsimp only at hSw); go_simp; (try with_reducible rfl))
            (try simp only [List.getElem_toArray, List.getElem_cons_succ, List.getElem_cons_zero, Act.put, List.setIfInBounds_toArray, List.set_cons_zero, List.set_cons_succ])
            refine wpAnyH_ready (rs := [10]) (by kernel_rfl) (by simp) (AllReadyH.cons (o := _) rfl (fun K hK => ?_) AllReadyH.nil)
            go_simp
            go_at_call 35
            refine (gcompare_v p0 p1 q0 q1 hL hL HC.out).mono ?_
            rintro e w3 ⟨rfl, hb⟩
            replace p0 := p0.below hb
            replace p1 := p1.below hb
            replace q0 := q0.below hb
            replace q1 := q1.below hb
            replace hB := hB.below hb
            replace hFB := hFB.below hb
            replace f0 := f0.below hb
            replace f1 := f1.below hb
            replace f2 := f2.below hb
            replace f3 := f3.below hb
            replace f4 := f4.below hb
            replace f5 := f5.below hb
            replace b5 := b5.below hb
            replace H0 := H0.trans (hb.mono H0.size)
            clear hb
            go_wp2_with fail
            refine hK.out _ _ ⟨b5.cell 0 _ rfl, b5.cell 1 _ rfl, b5.cell 2 _ rfl, b5.cell 3 _ rfl, b5.cell 4 _ rfl, b5.cell 5 _ rfl, f0.eq, f1.eq, f2.eq, f3.eq, f4.eq, f5.eq⟩ (fun hHeld => ?_)
            clear hK K
            (try simp only [List.getElem_toArray, List.getElem_cons_succ, List.getElem_cons_zero, Act.put, List.setIfInBounds_toArray, List.set_cons_zero, List.set_cons_succ])
            refine wpAnyH_take (i := 11) (v := ?_) rfl (by kernel_rfl) (by kernel_rfl) (by kernel_rfl) (fun _ _ _ h => h) (Or.inl ⟨by rfl, ?_⟩) (by assumption) ?_
            rotate_left
            · (intro w hSw; (try dsimp only at hSw); go_simp; (try with_reducible rfl))
            (try simp only [List.getElem_toArray, List.getElem_cons_succ, List.getElem_cons_zero, Act.put, List.setIfInBounds_toArray, List.set_cons_zero, List.set_cons_succ])
            refine wpAnyH_take (i := 12) (v := ?_) rfl (by kernel_rfl) (by kernel_rfl) (by kernel_rfl) (fun _ _ _ h => h) (Or.inl ⟨by rfl, ?_⟩) (by assumption) ?_
            rotate_left
            · (intro w hSw; (try dsimp only at hSw); go_simp; (try with_reducible rfl))
            (try simp only [List.getElem_toArray, List.getElem_cons_succ, List.getElem_cons_zero, Act.put, List.setIfInBounds_toArray, List.set_cons_zero, List.set_cons_succ])
            refine wpAnyH_done (by kernel_rfl) ?_ _
            refine NoPanic.normal ?_
            clear f0 f1 f2 f3 f4 f5 p0 p1
            have hT := part3_pp hB hk
            have hDD := part_pp hB (i := k) (j := us.length) hk (Nat.le_refl _)
            rw [List.take_of_length_le (Nat.le_refl _)] at hDD
            have hcne : ¬ c9 = k := by omega
            have hkc : k ≤ c9 := by omega
            have hlD : (us.drop k) = [] ∨ 1 < 1 + (us.drop k).length := .inr (by rw [List.length_drop]; omega)
            have HAI : Hid (AscP ((us.take k ++ y :: us.drop k).map PP.pt)) := Lib.hid (by rw [List.map_append, List.map_cons, List.map_take, List.map_drop]; exact HASC.out.ins HLO.out (fun z hz => by rw [HXK.out] at hz; injection hz with hz; rw [← hz]; exact HHI.out))
            obtain ⟨us9, hus9⟩ : ∃ us9, us.take k ++ y :: us.drop k = us9 := ⟨_, rfl⟩
            have HU := Lib.hid hus9
            have hl9 : (us.take k).length ≤ 1000 ∧ (us.drop k).length ≤ 1000 ∧ us9.length ≤ i + 1 ∧ 0 < us9.length := by rw [← hus9]; simp <;> omega
            obtain ⟨hlT, hlD, hlU, hlP⟩ := hl9
            rw [show (us.take k ++ y :: us.drop k) = us9 from hus9] at HAI
            clear hus9
            skip
            go_upto_region 9 with fail
            have hD := drawn_below w3
            replace hT := hT.below hD
            replace hDD := hDD.below hD
            replace hFB := hFB.below hD
            replace q0 := q0.below hD
            replace q1 := q1.below hD
            replace b5 := b5.below hD
            replace H0 := H0.trans (hD.mono H0.size)
            clear hD
            refine wp_region_noPanic ?_
            refine wp_region_held_drew (S := (fun _ => True)) (by kernel_rfl) trivial (fun hHeld => ?_)
            generalize w3.drew = v4 at H0 hT hDD hFB q0 q1 b5 ⊢
            refine wpAnyH_take (i := 0) (v := ?_) rfl (by kernel_rfl) (by kernel_rfl) (by kernel_rfl) (fun _ _ _ h => h) (Or.inl ⟨by rfl, ?_⟩) (by assumption) ?_
            rotate_left
            · (intro w hSw; (try dsimp only at hSw); go_simp; (try with_reducible rfl))
            (try simp only [List.getElem_toArray, List.getElem_cons_zero, Act.put, List.setIfInBounds_toArray, List.set_cons_zero, List.set_cons_succ])
            refine wpAnyH_take (i := 1) (v := ?_) rfl (by kernel_rfl) (by kernel_rfl) (by kernel_rfl) (fun _ _ _ h => h) (Or.inl ⟨by rfl, ?_⟩) (by assumption) ?_
            rotate_left
            · (intro w hSw; (try dsimp only at hSw); go_simp; (try with_reducible rfl))
            (try simp only [List.getElem_toArray, List.getElem_cons_succ, List.getElem_cons_zero, Act.put, List.setIfInBounds_toArray, List.set_cons_zero, List.set_cons_succ])
            refine wpAnyH_take (i := 2) (v := ?_) rfl (by kernel_rfl) (by kernel_rfl) (by kernel_rfl) (fun _ _ _ h => h) (Or.inl ⟨by rfl, ?_⟩) (by assumption) ?_
            rotate_left
            · (intro w hSw; (try dsimp only at hSw); go_simp; (try with_reducible rfl))
            (try simp only [List.getElem_toArray, List.getElem_cons_succ, List.getElem_cons_zero, Act.put, List.setIfInBounds_toArray, List.set_cons_zero, List.set_cons_succ])
            refine wpAnyH_take (i := 3) (v := ?_) rfl (by kernel_rfl) (by kernel_rfl) (by kernel_rfl) (fun _ _ _ h => h) (Or.inl ⟨by rfl, ?_⟩) (by assumption) ?_
            rotate_left
            · (intro w hSw; (try dsimp only at hSw); go_simp; (try with_reducible rfl))
            (try simp only [List.getElem_toArray, List.getElem_cons_succ, List.getElem_cons_zero, Act.put, List.setIfInBounds_toArray, List.set_cons_zero, List.set_cons_succ])
            refine wpAnyH_take (i := 6) (v := ?_) rfl (by kernel_rfl) (by kernel_rfl) (by kernel_rfl) (fun _ _ _ h => h) (Or.inl ⟨by rfl, ?_⟩) (by assumption) ?_
            rotate_left
            · (intro w hSw; (try dsimp only at hSw); go_simp; (try with_reducible rfl))
            (try simp only [List.getElem_toArray, List.getElem_cons_succ, List.getElem_cons_zero, Act.put, List.setIfInBounds_toArray, List.set_cons_zero, List.set_cons_succ])
            refine wpAnyH_take (i := 7) (v := ?_) rfl (by kernel_rfl) (by kernel_rfl) (by kernel_rfl) (fun _ _ _ h => h) (Or.inl ⟨by rfl, ?_⟩) (by assumption) ?_
            rotate_left
            · (intro w hSw; (try dsimp only at hSw); go_simp; (try with_reducible rfl))
            (try simp only [List.getElem_toArray, List.getElem_cons_succ, List.getElem_cons_zero, Act.put, List.setIfInBounds_toArray, List.set_cons_zero, List.set_cons_succ])
            refine wpAnyH_take (i := 8) (v := ?_) rfl (by kernel_rfl) (by kernel_rfl) (by kernel_rfl) (fun _ _ _ h => h) (Or.inl ⟨by rfl, ?_⟩) (by assumption) ?_
            rotate_left
            · (intro w hSw; (try dsimp only at hSw); go_simp; (try with_reducible rfl))
            (try simp only [List.getElem_toArray, List.getElem_cons_succ, List.getElem_cons_zero, Act.put, List.setIfInBounds_toArray, List.set_cons_zero, List.set_cons_succ])
            have z0 := b5.cell 0 _ rfl
            have z1 := b5.cell 1 _ rfl
            have z2 := b5.cell 2 _ rfl
            have z3 := b5.cell 3 _ rfl
            have z4 := b5.cell 4 _ rfl
            have z5 := b5.cell 5 _ rfl
            refine wpAnyH_ready (rs := [4]) (by kernel_rfl) (by simp) (AllReadyH.cons (o := _) rfl (fun K hK => ?_) AllReadyH.nil)
            go_simp
            refine hK.out _ _ trivial (fun hHeld => ?_)
            clear hK K z0 z1 z2 z3 z4 z5
            (try simp only [List.getElem_toArray, List.getElem_cons_succ, List.getElem_cons_zero, Act.put, List.setIfInBounds_toArray, List.set_cons_zero, List.set_cons_succ])
            refine wpAnyH_ready (rs := [5]) (by kernel_rfl) (by simp) (AllReadyH.cons (o := _) rfl (fun K hK => ?_) AllReadyH.nil)
            go_simp
            obtain ⟨W5, hW, bL, hbW, hszW5⟩ := boxes1 v4 #[.bool y.s0, .slice y.A0 y.n0 y.c0, .slice y.D0 y.m0 y.e0, .bool y.s1, .slice y.A1 y.n1 y.c1, .slice y.D1 y.m1 y.e1] 51
            rw [hW]
            clear hW hszW5
            replace hT := hT.below hbW
            replace hDD := hDD.below hbW
            replace hFB := hFB.below hbW
            replace q0 := q0.below hbW
            replace q1 := q1.below hbW
            replace b5 := b5.below hbW
            replace H0 := H0.trans (hbW.mono H0.size)
            clear hbW
            refine hK.out _ _ trivial (fun hHeld => ?_)
            clear hK K
            (try simp only [List.getElem_toArray, List.getElem_cons_succ, List.getElem_cons_zero, Act.put, List.setIfInBounds_toArray, List.set_cons_zero, List.set_cons_succ])
            skip
            refine wpAnyH_ready (rs := [9]) (by kernel_rfl) (by simp) (AllReadyH.cons (o := _) rfl (fun K hK => ?_) AllReadyH.nil)
            rw [if_pos (by rfl)]
            refine op_append_read (css := rowsP [y]) (css' := rowsP (us.drop k)) _ _ rfl elem_gp rfl (box_row bL) rfl hDD (rowsP_one _) (.inr (by rw [rowsP_len, List.length_drop]; omega)) (by rw [rowsP_len]; omega) ?_
            intro v1_ w1_ hA1 hb1
            replace hT := hT.below hb1
            replace hFB := hFB.below hb1
            replace q0 := q0.below hb1
            replace q1 := q1.below hb1
            replace H0 := H0.trans (hb1.mono H0.size)
            clear hb1
            refine hK.out _ _ trivial (fun hHeld => ?_)
            clear hK K
            (try simp only [List.getElem_toArray, List.getElem_cons_succ, List.getElem_cons_zero, Act.put, List.setIfInBounds_toArray, List.set_cons_zero, List.set_cons_succ])
            refine wpAnyH_ready (rs := [10]) (by kernel_rfl) (by simp) (AllReadyH.cons (o := _) rfl (fun K hK => ?_) AllReadyH.nil)
            rw [if_pos (by rfl)]
            refine op_append_read (css := rowsP (us.take k)) (css' := rowsP [y] ++ rowsP (us.drop k)) _ _ rfl elem_gp rfl hT rfl hA1 (fun cs h => (List.mem_append.1 h).elim (rowsP_one _ cs) (rowsP_one _ cs)) (.inr (by simp [rowsP_len] <;> omega)) (by simp [rowsP_len] <;> omega) ?_
            intro v2_ w2_ hA2 hb2
            replace hA2 := hA2
            replace hT := hT.below hb2
            replace hFB := hFB.below hb2
            replace q0 := q0.below hb2
            replace q1 := q1.below hb2
            replace H0 := H0.trans (hb2.mono H0.size)
            clear hb2
            have hA3 : ReadR w2_ 6 v2_ (rowsP us9) := by rw [← HU.out]; unfold rowsP at *; rw [List.map_append, List.map_cons]; exact hA2
            obtain ⟨A2_, c2_, hv2, hx1, hx2⟩ := hA3.shape
            rw [rowsP_len] at hv2
            subst hv2
            clear hx1 hx2 hA1 hA2 hDD hT bL b5
            refine hK.out _ _ trivial (fun hHeld => ?_)
            clear hK K
            (try simp only [List.getElem_toArray, List.getElem_cons_succ, List.getElem_cons_zero, Act.put, List.setIfInBounds_toArray, List.set_cons_zero, List.set_cons_succ])
            refine wpAnyH_take (i := 11) (v := ?_) rfl (by kernel_rfl) (by kernel_rfl) (by kernel_rfl) (fun _ _ _ h => h) (Or.inl ⟨by rfl, ?_⟩) (by assumption) ?_
            rotate_left
            · (intro w hSw; (try dsimp only at hSw); go_simp; (try with_reducible rfl))
            (try simp only [List.getElem_toArray, List.getElem_cons_succ, List.getElem_cons_zero, Act.put, List.setIfInBounds_toArray, List.set_cons_zero, List.set_cons_succ])
            refine wpAnyH_done (by kernel_rfl) ?_ _
            refine NoPanic.normal ?_
            have HF9 : Hid (FP w2_ L us9) := Lib.hid (fun z hz => by rw [← HU.out] at hz; exact (List.mem_append.1 hz).elim (fun h => hFB z (List.mem_of_mem_take h)) (fun h => (List.mem_cons.1 h).elim (fun e => by rw [e]; exact ⟨q0, q1⟩) (fun h => hFB z (List.mem_of_mem_drop h))))
            have HS9 : Hid (∀ z ∈ us9.map PP.pt, z ∈ zs.map PP.pt) := Lib.hid (fun z hz => by rw [← HU.out, List.map_append, List.map_cons] at hz; exact (List.mem_append.1 hz).elim (fun h => HSUB.out z (by rw [List.map_take] at h; exact List.mem_of_mem_take h)) (fun h => (List.mem_cons.1 h).elim (fun e => by rw [e]; exact HYM.out) (fun h => HSUB.out z (by rw [List.map_drop] at h; exact List.mem_of_mem_drop h))))
            clear hFB q0 q1
            go_wp2_with fail
            go_roundw
            case rel => exact ⟨i + 1, _, _, us9, by omega, by go_num, rfl, (fun h => by omega), hA3, HF9.out, HAI.out, HS9.out, hlU, H0⟩
            case measure => simp [intOf]; omega
          · rw [HC.out] at e
            subst e
            clear hl
            go_upto_region 8 with fail
            have hD := drawn_below w1
            replace p0 := p0.below hD
            replace p1 := p1.below hD
            replace q0 := q0.below hD
            replace q1 := q1.below hD
            replace hB := hB.below hD
            replace hFB := hFB.below hD
            replace f0 := f0.below hD
            replace f1 := f1.below hD
            replace f2 := f2.below hD
            replace f3 := f3.below hD
            replace f4 := f4.below hD
            replace f5 := f5.below hD
            replace b5 := b5.below hD
            replace H0 := H0.trans (hD.mono H0.size)
            clear hD
            refine wp_region_noPanic ?_
            refine wp_region_held_drew (S := (fun V => V.cell? ⟨gb, 0, none⟩ = some (.bool y.s0) ∧ V.cell? ⟨gb, 1, none⟩ = some (.slice y.A0 y.n0 y.c0) ∧ V.cell? ⟨gb, 2, none⟩ = some (.slice y.D0 y.m0 y.e0) ∧ V.cell? ⟨gb, 3, none⟩ = some (.bool y.s1) ∧ V.cell? ⟨gb, 4, none⟩ = some (.slice y.A1 y.n1 y.c1) ∧ V.cell? ⟨gb, 5, none⟩ = some (.slice y.D1 y.m1 y.e1) ∧ V.cell? ⟨g', o' + k * 6, none⟩ = some (.bool x.s0) ∧ V.cell? ⟨g', o' + k * 6 + 1, none⟩ = some (.slice x.A0 x.n0 x.c0) ∧ V.cell? ⟨g', o' + k * 6 + 2, none⟩ = some (.slice x.D0 x.m0 x.e0) ∧ V.cell? ⟨g', o' + k * 6 + 3, none⟩ = some (.bool x.s1) ∧ V.cell? ⟨g', o' + k * 6 + 4, none⟩ = some (.slice x.A1 x.n1 x.c1) ∧ V.cell? ⟨g', o' + k * 6 + 5, none⟩ = some (.slice x.D1 x.m1 x.e1))) (by kernel_rfl) ⟨b5.cell 0 _ rfl, b5.cell 1 _ rfl, b5.cell 2 _ rfl, b5.cell 3 _ rfl, b5.cell 4 _ rfl, b5.cell 5 _ rfl, f0.eq, f1.eq, f2.eq, f3.eq, f4.eq, f5.eq⟩ (fun hHeld => ?_)
            generalize w1.drew = v2 at H0 hHeld p0 p1 q0 q1 hB hFB f0 f1 f2 f3 f4 f5 b5 ⊢
            refine wpAnyH_take (i := 0) (v := ?_) rfl (by kernel_rfl) (by kernel_rfl) (by kernel_rfl) (fun _ _ _ h => h) (Or.inl ⟨by rfl, ?_⟩) (by assumption) ?_
            rotate_left
            · (intro w hSw; (try dsimp only at hSw); go_simp; (try with_reducible rfl))
            (try simp only [List.getElem_toArray, List.getElem_cons_zero, Act.put, List.setIfInBounds_toArray, List.set_cons_zero, List.set_cons_succ])
            refine wpAnyH_take (i := 1) (v := ?_) rfl (by kernel_rfl) (by kernel_rfl) (by kernel_rfl) (fun _ _ _ h => h) (Or.inl ⟨by rfl, ?_⟩) (by assumption) ?_
            rotate_left
            · (intro w hSw; (try dsimp only at hSw); go_simp; (try with_reducible rfl))
            (try simp only [List.getElem_toArray, List.getElem_cons_succ, List.getElem_cons_zero, Act.put, List.setIfInBounds_toArray, List.set_cons_zero, List.set_cons_succ])
            refine wpAnyH_take (i := 2) (v := ?_) rfl (by kernel_rfl) (by kernel_rfl) (by kernel_rfl) (fun _ _ _ h => h) (Or.inl ⟨by rfl, ?_⟩) (by assumption) ?_
            rotate_left
            · (intro w hSw; (try dsimp only at hSw); go_simp; (try with_reducible rfl))
            (try simp only [List.getElem_toArray, List.getElem_cons_succ, List.getElem_cons_zero, Act.put, List.setIfInBounds_toArray, List.set_cons_zero, List.set_cons_succ])
            refine wpAnyH_take (i := 3) (v := ?_) rfl (by kernel_rfl) (by kernel_rfl) (by kernel_rfl) (fun _ _ _ h => h) (Or.inl ⟨by rfl, ?_⟩) (by assumption) ?_
            rotate_left
            · (intro w hSw; (try dsimp only at hSw); go_simp; (try with_reducible rfl))
            (try simp only [List.getElem_toArray, List.getElem_cons_succ, List.getElem_cons_zero, Act.put, List.setIfInBounds_toArray, List.set_cons_zero, List.set_cons_succ])
            refine wpAnyH_take (i := 4) (v := ?_) rfl (by kernel_rfl) (by kernel_rfl) (by kernel_rfl) (fun _ _ _ h => h) (Or.inl ⟨by rfl, ?_⟩) (by assumption) ?_
            rotate_left
            · (intro w hSw; (try dsimp only at hSw); go_simp; (try with_reducible rfl))
            (try simp only [List.getElem_toArray, List.getElem_cons_succ, List.getElem_cons_zero, Act.put, List.setIfInBounds_toArray, List.set_cons_zero, List.set_cons_succ])
            refine wpAnyH_take (i := 5) (v := ?_) rfl (by kernel_rfl) (by kernel_rfl) (by kernel_rfl) (fun _ _ _ h => h) (Or.inl ⟨by rfl, ?_⟩) (by assumption) ?_
            rotate_left
            · (intro w hSw; (try dsimp only at hSw); go_simp; (try with_reducible rfl))
            (try simp only [List.getElem_toArray, List.getElem_cons_succ, List.getElem_cons_zero, Act.put, List.setIfInBounds_toArray, List.set_cons_zero, List.set_cons_succ])
            refine wpAnyH_take (i := 6) (v := ?_) rfl (by kernel_rfl) (by kernel_rfl) (by kernel_rfl) (fun _ _ _ h => h) (Or.inl ⟨by rfl, ?_⟩) (by assumption) ?_
            rotate_left
            · (intro w hSw; (try dsimp only at hSw); go_simp; (try with_reducible rfl))
            (try simp only [List.getElem_toArray, List.getElem_cons_succ, List.getElem_cons_zero, Act.put, List.setIfInBounds_toArray, List.set_cons_zero, List.set_cons_succ])
            refine wpAnyH_take (i := 9) (v := ?_) rfl (by kernel_rfl) (by kernel_rfl) (by kernel_rfl) (fun _ _ _ h => h) (Or.inl ⟨by rfl, ?_⟩) (by assumption) ?_
            rotate_left
            · (intro w hSw; (try dsimp only at hSw); go_simp; (try with_reducible rfl))
            (try simp only [List.getElem_toArray, List.getElem_cons_succ, List.getElem_cons_zero, Act.put, List.setIfInBounds_toArray, List.set_cons_zero, List.set_cons_succ])
            refine wpAnyH_take (i := 7) (v := ?_) rfl (by kernel_rfl) (by kernel_rfl) (by kernel_rfl) (fun _ _ _ h => h) (Or.inl ⟨by rfl, ?_⟩) (by assumption) ?_
            rotate_left
            · (intro w hSw; (try dsimp only at hSw); go_simp; (try with_reducible rfl))
            (try simp only [List.getElem_toArray, List.getElem_cons_succ, List.getElem_cons_zero, Act.put, List.setIfInBounds_toArray, List.set_cons_zero, List.set_cons_succ])
            refine wpAnyH_take (i := 8) (v := ?_) rfl (by kernel_rfl) (by kernel_rfl) (by kernel_rfl) (fun _ _ _ h => h) (Or.inl ⟨by rfl, ?_⟩) (by assumption) ?_
            rotate_left
            · (intro w hSw; (try dsimp only at hSw); go_simp; (try with_reducible rfl))
            (try simp only [List.getElem_toArray, List.getElem_cons_succ, List.getElem_cons_zero, Act.put, List.setIfInBounds_toArray, List.set_cons_zero, List.set_cons_succ])
            refine wpAnyH_ready (rs := [10]) (by kernel_rfl) (by simp) (AllReadyH.cons (o := _) rfl (fun K hK => ?_) AllReadyH.nil)
            go_simp
            go_at_call 35
            refine (gcompare_v p0 p1 q0 q1 hL hL HC.out).mono ?_
            rintro e w3 ⟨rfl, hb⟩
            replace p0 := p0.below hb
            replace p1 := p1.below hb
            replace q0 := q0.below hb
            replace q1 := q1.below hb
            replace hB := hB.below hb
            replace hFB := hFB.below hb
            replace f0 := f0.below hb
            replace f1 := f1.below hb
            replace f2 := f2.below hb
            replace f3 := f3.below hb
            replace f4 := f4.below hb
            replace f5 := f5.below hb
            replace b5 := b5.below hb
            replace H0 := H0.trans (hb.mono H0.size)
            clear hb
            go_wp2_with fail
            refine hK.out _ _ ⟨b5.cell 0 _ rfl, b5.cell 1 _ rfl, b5.cell 2 _ rfl, b5.cell 3 _ rfl, b5.cell 4 _ rfl, b5.cell 5 _ rfl, f0.eq, f1.eq, f2.eq, f3.eq, f4.eq, f5.eq⟩ (fun hHeld => ?_)
            clear hK K
            (try simp only [List.getElem_toArray, List.getElem_cons_succ, List.getElem_cons_zero, Act.put, List.setIfInBounds_toArray, List.set_cons_zero, List.set_cons_succ])
            refine wpAnyH_take (i := 11) (v := ?_) rfl (by kernel_rfl) (by kernel_rfl) (by kernel_rfl) (fun _ _ _ h => h) (Or.inl ⟨by rfl, ?_⟩) (by assumption) ?_
            rotate_left
            · (intro w hSw; (try dsimp only at hSw); go_simp; (try with_reducible rfl))
            (try simp only [List.getElem_toArray, List.getElem_cons_succ, List.getElem_cons_zero, Act.put, List.setIfInBounds_toArray, List.set_cons_zero, List.set_cons_succ])
            refine wpAnyH_take (i := 12) (v := ?_) rfl (by kernel_rfl) (by kernel_rfl) (by kernel_rfl) (fun _ _ _ h => h) (Or.inl ⟨by rfl, ?_⟩) (by assumption) ?_
            rotate_left
            · (intro w hSw; (try dsimp only at hSw); go_simp; (try with_reducible rfl))
            (try simp only [List.getElem_toArray, List.getElem_cons_succ, List.getElem_cons_zero, Act.put, List.setIfInBounds_toArray, List.set_cons_zero, List.set_cons_succ])
            refine wpAnyH_done (by kernel_rfl) ?_ _
            refine NoPanic.normal ?_
            clear f0 f1 f2 f3 f4 f5 p0 p1 q0 q1
            go_wp2_with fail
            go_roundw
            case rel => exact ⟨i + 1, _, _, us, by omega, by go_num, rfl, (fun h => by omega), hB, hFB, HASC.out, HSUB.out, by omega, H0⟩
            case measure => simp [intOf]; omega
          · rw [HC.out] at e
            subst e
            have HLL := Lib.hid hl
            clear hl f0 f1 f2 f3 f4 f5 p0 p1
            go_wp2_with fail
            go_roundw
            case rel => exact ⟨k + 1, by omega, by go_num, (fun t z ht hz => (Nat.lt_succ_iff_lt_or_eq.1 ht).elim (fun h => HLO.out t z h hz) (fun h => by subst h; rw [HXK.out] at hz; injection hz with hz; rw [← hz]; exact HLL.out)), hB, hFB, q0, q1, b5, H0⟩
            case measure => simp [intOf]; omega
        · obtain ⟨n9, hn9⟩ : ∃ n9, us.length = n9 := ⟨_, rfl⟩
          obtain rfl : k = us.length := by omega
          have dk : decide ((us.length : Int) < (us.length : Int)) = false := decide_eq_false (by omega)
          have dk2 : ((us.length : Int) == (us.length : Int)) = true := by rw [beq_iff_eq]
          have HAI : Hid (AscP ((us ++ [y]).map PP.pt)) := Lib.hid (by
            have h9 := HASC.out.ins (i := (us.map PP.pt).length) (p := y.pt) (fun t z ht hz => HLO.out t z (by rw [List.length_map] at ht; exact ht) hz) (fun z hz => by rw [List.getElem?_eq_none (Nat.le_refl _)] at hz; cases hz)
            rw [List.take_length, List.drop_length] at h9
            rw [List.map_append]; exact h9)
          clear hn9
          go_upto_region 6 with fail
          have hD := drawn_below wr
          replace hB := hB.below hD
          replace hFB := hFB.below hD
          replace q0 := q0.below hD
          replace q1 := q1.below hD
          replace b5 := b5.below hD
          replace H0 := H0.trans (hD.mono H0.size)
          clear hD
          refine wp_region_noPanic ?_
          refine wp_region_held_drew (S := (fun _ => True)) (by kernel_rfl) trivial (fun hHeld => ?_)
          generalize wr.drew = v0 at H0 hHeld hB hFB q0 q1 b5 ⊢
          refine wpAnyH_take (i := 0) (v := ?_) rfl (by kernel_rfl) (by kernel_rfl) (by kernel_rfl) (fun _ _ _ h => h) (Or.inl ⟨by rfl, ?_⟩) (by assumption) ?_
          rotate_left
          · (intro w hSw; (try dsimp only at hSw); go_simp; (try with_reducible rfl))
          (try simp only [List.getElem_toArray, List.getElem_cons_zero, Act.put, List.setIfInBounds_toArray, List.set_cons_zero, List.set_cons_succ])
          refine wpAnyH_take (i := 1) (v := ?_) rfl (by kernel_rfl) (by kernel_rfl) (by kernel_rfl) (fun _ _ _ h => h) (Or.inl ⟨by rfl, ?_⟩) (by assumption) ?_
          rotate_left
          · (intro w hSw; (try dsimp only at hSw); go_simp; (try with_reducible rfl))
          (try simp only [List.getElem_toArray, List.getElem_cons_succ, List.getElem_cons_zero, Act.put, List.setIfInBounds_toArray, List.set_cons_zero, List.set_cons_succ])
          refine wpAnyH_take (i := 2) (v := ?_) rfl (by kernel_rfl) (by kernel_rfl) (by kernel_rfl) (fun _ _ _ h => h) (Or.inl ⟨by rfl, ?_⟩) (by assumption) ?_
          rotate_left
          · (intro w hSw; (try dsimp only at hSw); go_simp; (try with_reducible rfl))
          (try simp only [List.getElem_toArray, List.getElem_cons_succ, List.getElem_cons_zero, Act.put, List.setIfInBounds_toArray, List.set_cons_zero, List.set_cons_succ])
          refine wpAnyH_take (i := 3) (v := ?_) rfl (by kernel_rfl) (by kernel_rfl) (by kernel_rfl) (fun _ _ _ h => h) (Or.inl ⟨by rfl, ?_⟩) (by assumption) ?_
          rotate_left
          · (intro w hSw; (try dsimp only at hSw); go_simp; (try with_reducible rfl))
          (try simp only [List.getElem_toArray, List.getElem_cons_succ, List.getElem_cons_zero, Act.put, List.setIfInBounds_toArray, List.set_cons_zero, List.set_cons_succ])
          refine wpAnyH_take (i := 4) (v := ?_) rfl (by kernel_rfl) (by kernel_rfl) (by kernel_rfl) (fun _ _ _ h => h) (Or.inl ⟨by rfl, ?_⟩) (by assumption) ?_
          rotate_left
          · (intro w hSw; (try dsimp only at hSw); go_simp; (try with_reducible rfl))
          (try simp only [List.getElem_toArray, List.getElem_cons_succ, List.getElem_cons_zero, Act.put, List.setIfInBounds_toArray, List.set_cons_zero, List.set_cons_succ])
          refine wpAnyH_take (i := 5) (v := undef) rfl (by kernel_rfl) (by kernel_rfl) (by kernel_rfl) (fun _ _ _ h => h) (Or.inr ⟨by rfl, rfl⟩) (by assumption) ?_
          (try simp only [List.getElem_toArray, List.getElem_cons_succ, List.getElem_cons_zero, Act.put, List.setIfInBounds_toArray, List.set_cons_zero, List.set_cons_succ])
          refine wpAnyH_take (i := 6) (v := undef) rfl (by kernel_rfl) (by kernel_rfl) (by kernel_rfl) (fun _ _ _ h => h) (Or.inr ⟨by rfl, rfl⟩) (by assumption) ?_
          (try simp only [List.getElem_toArray, List.getElem_cons_succ, List.getElem_cons_zero, Act.put, List.setIfInBounds_toArray, List.set_cons_zero, List.set_cons_succ])
          refine wpAnyH_take (i := 9) (v := undef) rfl (by kernel_rfl) (by kernel_rfl) (by kernel_rfl) (fun _ _ _ h => h) (Or.inr ⟨by rfl, rfl⟩) (by assumption) ?_
          (try simp only [List.getElem_toArray, List.getElem_cons_succ, List.getElem_cons_zero, Act.put, List.setIfInBounds_toArray, List.set_cons_zero, List.set_cons_succ])
          refine wpAnyH_take (i := 7) (v := undef) rfl (by kernel_rfl) (by kernel_rfl) (by kernel_rfl) (fun _ _ _ h => h) (Or.inr ⟨by rfl, rfl⟩) (by assumption) ?_
          (try simp only [List.getElem_toArray, List.getElem_cons_succ, List.getElem_cons_zero, Act.put, List.setIfInBounds_toArray, List.set_cons_zero, List.set_cons_succ])
          refine wpAnyH_take (i := 8) (v := undef) rfl (by kernel_rfl) (by kernel_rfl) (by kernel_rfl) (fun _ _ _ h => h) (Or.inr ⟨by rfl, rfl⟩) (by assumption) ?_
          (try simp only [List.getElem_toArray, List.getElem_cons_succ, List.getElem_cons_zero, Act.put, List.setIfInBounds_toArray, List.set_cons_zero, List.set_cons_succ])
          refine wpAnyH_take (i := 10) (v := undef) rfl (by kernel_rfl) (by kernel_rfl) (by kernel_rfl) (fun _ _ _ h => h) (Or.inr ⟨by rfl, rfl⟩) (by assumption) ?_
          (try simp only [List.getElem_toArray, List.getElem_cons_succ, List.getElem_cons_zero, Act.put, List.setIfInBounds_toArray, List.set_cons_zero, List.set_cons_succ])
          refine wpAnyH_take (i := 11) (v := undef) rfl (by kernel_rfl) (by kernel_rfl) (by kernel_rfl) (fun _ _ _ h => h) (Or.inr ⟨by rfl, rfl⟩) (by assumption) ?_
          (try simp only [List.getElem_toArray, List.getElem_cons_succ, List.getElem_cons_zero, Act.put, List.setIfInBounds_toArray, List.set_cons_zero, List.set_cons_succ])
          refine wpAnyH_take (i := 12) (v := ?_) rfl (by kernel_rfl) (by kernel_rfl) (by kernel_rfl) (fun _ _ _ h => h) (Or.inl ⟨by rfl, ?_⟩) (by assumption) ?_
          rotate_left
          · (intro w hSw; (try dsimp only at hSw); go_simp; (try with_reducible rfl))
          (try simp only [List.getElem_toArray, List.getElem_cons_succ, List.getElem_cons_zero, Act.put, List.setIfInBounds_toArray, List.set_cons_zero, List.set_cons_succ])
          refine wpAnyH_done (by kernel_rfl) ?_ _
          refine NoPanic.normal ?_
          go_upto_region 8 with fail
          have hD := drawn_below v0
          replace hB := hB.below hD
          replace hFB := hFB.below hD
          replace q0 := q0.below hD
          replace q1 := q1.below hD
          replace b5 := b5.below hD
          replace H0 := H0.trans (hD.mono H0.size)
          clear hD
          refine wp_region_noPanic ?_
          refine wp_region_held_drew (S := (fun _ => True)) (by kernel_rfl) trivial (fun hHeld => ?_)
          generalize v0.drew = v1 at H0 hHeld hB hFB q0 q1 b5 ⊢
          refine wpAnyH_take (i := 0) (v := ?_) rfl (by kernel_rfl) (by kernel_rfl) (by kernel_rfl) (fun _ _ _ h => h) (Or.inl ⟨by rfl, ?_⟩) (by assumption) ?_
          rotate_left
          · (intro w hSw; (try dsimp only at hSw); go_simp; (try with_reducible rfl))
          (try simp only [List.getElem_toArray, List.getElem_cons_zero, Act.put, List.setIfInBounds_toArray, List.set_cons_zero, List.set_cons_succ])
          refine wpAnyH_take (i := 1) (v := ?_) rfl (by kernel_rfl) (by kernel_rfl) (by kernel_rfl) (fun _ _ _ h => h) (Or.inl ⟨by rfl, ?_⟩) (by assumption) ?_
          rotate_left
          · (intro w hSw; (try dsimp only at hSw); go_simp; (try with_reducible rfl))
          (try simp only [List.getElem_toArray, List.getElem_cons_succ, List.getElem_cons_zero, Act.put, List.setIfInBounds_toArray, List.set_cons_zero, List.set_cons_succ])
          refine wpAnyH_take (i := 2) (v := ?_) rfl (by kernel_rfl) (by kernel_rfl) (by kernel_rfl) (fun _ _ _ h => h) (Or.inl ⟨by rfl, ?_⟩) (by assumption) ?_
          rotate_left
          · (intro w hSw; (try dsimp only at hSw); go_simp; (try with_reducible rfl))
          (try simp only [List.getElem_toArray, List.getElem_cons_succ, List.getElem_cons_zero, Act.put, List.setIfInBounds_toArray, List.set_cons_zero, List.set_cons_succ])
          refine wpAnyH_take (i := 3) (v := ?_) rfl (by kernel_rfl) (by kernel_rfl) (by kernel_rfl) (fun _ _ _ h => h) (Or.inl ⟨by rfl, ?_⟩) (by assumption) ?_
          rotate_left
          · (intro w hSw; (try dsimp only at hSw); go_simp; (try with_reducible rfl))
          (try simp only [List.getElem_toArray, List.getElem_cons_succ, List.getElem_cons_zero, Act.put, List.setIfInBounds_toArray, List.set_cons_zero, List.set_cons_succ])
          refine wpAnyH_take (i := 4) (v := ?_) rfl (by kernel_rfl) (by kernel_rfl) (by kernel_rfl) (fun _ _ _ h => h) (Or.inl ⟨by rfl, ?_⟩) (by assumption) ?_
          rotate_left
          · (intro w hSw; (try dsimp only at hSw); go_simp; (try with_reducible rfl))
          (try simp only [List.getElem_toArray, List.getElem_cons_succ, List.getElem_cons_zero, Act.put, List.setIfInBounds_toArray, List.set_cons_zero, List.set_cons_succ])
          refine wpAnyH_take (i := 5) (v := undef) rfl (by kernel_rfl) (by kernel_rfl) (by kernel_rfl) (fun _ _ _ h => h) (Or.inr ⟨by rfl, rfl⟩) (by assumption) ?_
          (try simp only [List.getElem_toArray, List.getElem_cons_succ, List.getElem_cons_zero, Act.put, List.setIfInBounds_toArray, List.set_cons_zero, List.set_cons_succ])
          refine wpAnyH_take (i := 6) (v := undef) rfl (by kernel_rfl) (by kernel_rfl) (by kernel_rfl) (fun _ _ _ h => h) (Or.inr ⟨by rfl, rfl⟩) (by assumption) ?_
          (try simp only [List.getElem_toArray, List.getElem_cons_succ, List.getElem_cons_zero, Act.put, List.setIfInBounds_toArray, List.set_cons_zero, List.set_cons_succ])
          refine wpAnyH_take (i := 9) (v := undef) rfl (by kernel_rfl) (by kernel_rfl) (by kernel_rfl) (fun _ _ _ h => h) (Or.inr ⟨by rfl, rfl⟩) (by assumption) ?_
          (try simp only [List.getElem_toArray, List.getElem_cons_succ, List.getElem_cons_zero, Act.put, List.setIfInBounds_toArray, List.set_cons_zero, List.set_cons_succ])
          refine wpAnyH_take (i := 7) (v := undef) rfl (by kernel_rfl) (by kernel_rfl) (by kernel_rfl) (fun _ _ _ h => h) (Or.inr ⟨by rfl, rfl⟩) (by assumption) ?_
          (try simp only [List.getElem_toArray, List.getElem_cons_succ, List.getElem_cons_zero, Act.put, List.setIfInBounds_toArray, List.set_cons_zero, List.set_cons_succ])
          refine wpAnyH_take (i := 8) (v := undef) rfl (by kernel_rfl) (by kernel_rfl) (by kernel_rfl) (fun _ _ _ h => h) (Or.inr ⟨by rfl, rfl⟩) (by assumption) ?_
          (try simp only [List.getElem_toArray, List.getElem_cons_succ, List.getElem_cons_zero, Act.put, List.setIfInBounds_toArray, List.set_cons_zero, List.set_cons_succ])
          refine wpAnyH_take (i := 10) (v := undef) rfl (by kernel_rfl) (by kernel_rfl) (by kernel_rfl) (fun _ _ _ h => h) (Or.inr ⟨by rfl, rfl⟩) (by assumption) ?_
          (try simp only [List.getElem_toArray, List.getElem_cons_succ, List.getElem_cons_zero, Act.put, List.setIfInBounds_toArray, List.set_cons_zero, List.set_cons_succ])
          refine wpAnyH_take (i := 11) (v := undef) rfl (by kernel_rfl) (by kernel_rfl) (by kernel_rfl) (fun _ _ _ h => h) (Or.inr ⟨by rfl, rfl⟩) (by assumption) ?_
          (try simp only [List.getElem_toArray, List.getElem_cons_succ, List.getElem_cons_zero, Act.put, List.setIfInBounds_toArray, List.set_cons_zero, List.set_cons_succ])
          refine wpAnyH_take (i := 12) (v := ?_) rfl (by kernel_rfl) (by kernel_rfl) (by kernel_rfl) (fun _ _ _ h => h) (Or.inl ⟨by rfl, ?_⟩) (by assumption) ?_
          rotate_left
          · (intro w hSw; (try dsimp only at hSw); go_simp; (try with_reducible rfl))
          (try simp only [List.getElem_toArray, List.getElem_cons_succ, List.getElem_cons_zero, Act.put, List.setIfInBounds_toArray, List.set_cons_zero, List.set_cons_succ])
          refine wpAnyH_done (by kernel_rfl) ?_ _
          refine NoPanic.normal ?_
          by_cases h0 : us.length = 0
          · obtain ⟨rfl, rfl⟩ := HZ0.out h0
            obtain rfl : us = [] := List.eq_nil_of_length_eq_zero h0
            have hT : ReadR v1 6 (.slice none 0 0) (rowsP []) := read_nil (by decide) _
            have hDD : ReadR v1 6 (.slice none 0 0) (rowsP []) := read_nil (by decide) _
            obtain ⟨us9, hus9⟩ : ∃ us9, ([] : List PP) ++ y :: ([] : List PP) = us9 := ⟨_, rfl⟩
            have HU := Lib.hid hus9
            have hl9 : (([] : List PP)).length ≤ 1000 ∧ (([] : List PP)).length ≤ 1000 ∧ us9.length ≤ i + 1 ∧ 0 < us9.length := by rw [← hus9]; simp <;> omega
            obtain ⟨hlT, hlD, hlU, hlP⟩ := hl9
            rw [show (([] : List PP) ++ y :: ([] : List PP)) = us9 from hus9] at HAI
            clear hus9
            skip
            go_upto_region 9 with fail
            have hD := drawn_below v1
            replace hT := hT.below hD
            replace hDD := hDD.below hD
            replace hFB := hFB.below hD
            replace q0 := q0.below hD
            replace q1 := q1.below hD
            replace b5 := b5.below hD
            replace H0 := H0.trans (hD.mono H0.size)
            clear hD
            refine wp_region_noPanic ?_
            refine wp_region_held_drew (S := (fun _ => True)) (by kernel_rfl) trivial (fun hHeld => ?_)
            generalize v1.drew = v2 at H0 hT hDD hFB q0 q1 b5 ⊢
            refine wpAnyH_take (i := 0) (v := ?_) rfl (by kernel_rfl) (by kernel_rfl) (by kernel_rfl) (fun _ _ _ h => h) (Or.inl ⟨by rfl, ?_⟩) (by assumption) ?_
            rotate_left
            · (intro w hSw; (try dsimp only at hSw); go_simp; (try with_reducible rfl))
            (try simp only [List.getElem_toArray, List.getElem_cons_zero, Act.put, List.setIfInBounds_toArray, List.set_cons_zero, List.set_cons_succ])
            refine wpAnyH_take (i := 1) (v := ?_) rfl (by kernel_rfl) (by kernel_rfl) (by kernel_rfl) (fun _ _ _ h => h) (Or.inl ⟨by rfl, ?_⟩) (by assumption) ?_
            rotate_left
            · (intro w hSw; (try dsimp only at hSw); go_simp; (try with_reducible rfl))
            (try simp only [List.getElem_toArray, List.getElem_cons_succ, List.getElem_cons_zero, Act.put, List.setIfInBounds_toArray, List.set_cons_zero, List.set_cons_succ])
            refine wpAnyH_take (i := 2) (v := ?_) rfl (by kernel_rfl) (by kernel_rfl) (by kernel_rfl) (fun _ _ _ h => h) (Or.inl ⟨by rfl, ?_⟩) (by assumption) ?_
            rotate_left
            · (intro w hSw; (try dsimp only at hSw); go_simp; (try with_reducible rfl))
            (try simp only [List.getElem_toArray, List.getElem_cons_succ, List.getElem_cons_zero, Act.put, List.setIfInBounds_toArray, List.set_cons_zero, List.set_cons_succ])
            refine wpAnyH_take (i := 3) (v := ?_) rfl (by kernel_rfl) (by kernel_rfl) (by kernel_rfl) (fun _ _ _ h => h) (Or.inl ⟨by rfl, ?_⟩) (by assumption) ?_
            rotate_left
            · (intro w hSw; (try dsimp only at hSw); go_simp; (try with_reducible rfl))
            (try simp only [List.getElem_toArray, List.getElem_cons_succ, List.getElem_cons_zero, Act.put, List.setIfInBounds_toArray, List.set_cons_zero, List.set_cons_succ])
            refine wpAnyH_take (i := 6) (v := ?_) rfl (by kernel_rfl) (by kernel_rfl) (by kernel_rfl) (fun _ _ _ h => h) (Or.inl ⟨by rfl, ?_⟩) (by assumption) ?_
            rotate_left
            · (intro w hSw; (try dsimp only at hSw); go_simp; (try with_reducible rfl))
            (try simp only [List.getElem_toArray, List.getElem_cons_succ, List.getElem_cons_zero, Act.put, List.setIfInBounds_toArray, List.set_cons_zero, List.set_cons_succ])
            refine wpAnyH_take (i := 7) (v := ?_) rfl (by kernel_rfl) (by kernel_rfl) (by kernel_rfl) (fun _ _ _ h => h) (Or.inl ⟨by rfl, ?_⟩) (by assumption) ?_
            rotate_left
            · (intro w hSw; (try dsimp only at hSw); go_simp; (try with_reducible rfl))
            (try simp only [List.getElem_toArray, List.getElem_cons_succ, List.getElem_cons_zero, Act.put, List.setIfInBounds_toArray, List.set_cons_zero, List.set_cons_succ])
            refine wpAnyH_take (i := 8) (v := ?_) rfl (by kernel_rfl) (by kernel_rfl) (by kernel_rfl) (fun _ _ _ h => h) (Or.inl ⟨by rfl, ?_⟩) (by assumption) ?_
            rotate_left
            · (intro w hSw; (try dsimp only at hSw); go_simp; (try with_reducible rfl))
            (try simp only [List.getElem_toArray, List.getElem_cons_succ, List.getElem_cons_zero, Act.put, List.setIfInBounds_toArray, List.set_cons_zero, List.set_cons_succ])
            have z0 := b5.cell 0 _ rfl
            have z1 := b5.cell 1 _ rfl
            have z2 := b5.cell 2 _ rfl
            have z3 := b5.cell 3 _ rfl
            have z4 := b5.cell 4 _ rfl
            have z5 := b5.cell 5 _ rfl
            refine wpAnyH_ready (rs := [4]) (by kernel_rfl) (by simp) (AllReadyH.cons (o := _) rfl (fun K hK => ?_) AllReadyH.nil)
            go_simp
            refine hK.out _ _ trivial (fun hHeld => ?_)
            clear hK K z0 z1 z2 z3 z4 z5
            (try simp only [List.getElem_toArray, List.getElem_cons_succ, List.getElem_cons_zero, Act.put, List.setIfInBounds_toArray, List.set_cons_zero, List.set_cons_succ])
            refine wpAnyH_ready (rs := [5]) (by kernel_rfl) (by simp) (AllReadyH.cons (o := _) rfl (fun K hK => ?_) AllReadyH.nil)
            go_simp
            obtain ⟨W3, hW, bL, hbW, hszW3⟩ := boxes1 v2 #[.bool y.s0, .slice y.A0 y.n0 y.c0, .slice y.D0 y.m0 y.e0, .bool y.s1, .slice y.A1 y.n1 y.c1, .slice y.D1 y.m1 y.e1] 51
            rw [hW]
            clear hW hszW3
            replace hT := hT.below hbW
            replace hDD := hDD.below hbW
            replace hFB := hFB.below hbW
            replace q0 := q0.below hbW
            replace q1 := q1.below hbW
            replace b5 := b5.below hbW
            replace H0 := H0.trans (hbW.mono H0.size)
            clear hbW
            refine hK.out _ _ trivial (fun hHeld => ?_)
            clear hK K
            (try simp only [List.getElem_toArray, List.getElem_cons_succ, List.getElem_cons_zero, Act.put, List.setIfInBounds_toArray, List.set_cons_zero, List.set_cons_succ])
            skip
            refine wpAnyH_ready (rs := [9]) (by kernel_rfl) (by simp) (AllReadyH.cons (o := _) rfl (fun K hK => ?_) AllReadyH.nil)
            rw [if_pos (by rfl)]
            refine op_append_read (css := rowsP [y]) (css' := rowsP (([] : List PP))) _ _ rfl elem_gp rfl (box_row bL) rfl hDD (rowsP_one _) (.inl rfl) (by rw [rowsP_len]; omega) ?_
            intro v1_ w1_ hA1 hb1
            replace hT := hT.below hb1
            replace hFB := hFB.below hb1
            replace q0 := q0.below hb1
            replace q1 := q1.below hb1
            replace H0 := H0.trans (hb1.mono H0.size)
            clear hb1
            refine hK.out _ _ trivial (fun hHeld => ?_)
            clear hK K
            (try simp only [List.getElem_toArray, List.getElem_cons_succ, List.getElem_cons_zero, Act.put, List.setIfInBounds_toArray, List.set_cons_zero, List.set_cons_succ])
            refine wpAnyH_ready (rs := [10]) (by kernel_rfl) (by simp) (AllReadyH.cons (o := _) rfl (fun K hK => ?_) AllReadyH.nil)
            rw [if_pos (by rfl)]
            refine op_append_read (css := rowsP (([] : List PP))) (css' := rowsP [y] ++ rowsP (([] : List PP))) _ _ rfl elem_gp rfl hT rfl hA1 (fun cs h => (List.mem_append.1 h).elim (rowsP_one _ cs) (rowsP_one _ cs)) (.inr (by simp [rowsP_len] <;> omega)) (by simp [rowsP_len] <;> omega) ?_
            intro v2_ w2_ hA2 hb2
            replace hA2 := hA2
            replace hT := hT.below hb2
            replace hFB := hFB.below hb2
            replace q0 := q0.below hb2
            replace q1 := q1.below hb2
            replace H0 := H0.trans (hb2.mono H0.size)
            clear hb2
            have hA3 : ReadR w2_ 6 v2_ (rowsP us9) := by rw [← HU.out]; unfold rowsP at *; rw [List.map_append, List.map_cons]; exact hA2
            obtain ⟨A2_, c2_, hv2, hx1, hx2⟩ := hA3.shape
            rw [rowsP_len] at hv2
            subst hv2
            clear hx1 hx2 hA1 hA2 hDD hT bL b5
            refine hK.out _ _ trivial (fun hHeld => ?_)
            clear hK K
            (try simp only [List.getElem_toArray, List.getElem_cons_succ, List.getElem_cons_zero, Act.put, List.setIfInBounds_toArray, List.set_cons_zero, List.set_cons_succ])
            refine wpAnyH_take (i := 11) (v := ?_) rfl (by kernel_rfl) (by kernel_rfl) (by kernel_rfl) (fun _ _ _ h => h) (Or.inl ⟨by rfl, ?_⟩) (by assumption) ?_
            rotate_left
            · (intro w hSw; (try dsimp only at hSw); go_simp; (try with_reducible rfl))
            (try simp only [List.getElem_toArray, List.getElem_cons_succ, List.getElem_cons_zero, Act.put, List.setIfInBounds_toArray, List.set_cons_zero, List.set_cons_succ])
            refine wpAnyH_done (by kernel_rfl) ?_ _
            refine NoPanic.normal ?_
            have HF9 : Hid (FP w2_ L us9) := Lib.hid (fun z hz => by rw [← HU.out] at hz; exact (List.mem_append.1 hz).elim (fun h => hFB z (by cases h)) (fun h => (List.mem_cons.1 h).elim (fun e => by rw [e]; exact ⟨q0, q1⟩) (fun h => hFB z (by cases h))))
            have HS9 : Hid (∀ z ∈ us9.map PP.pt, z ∈ zs.map PP.pt) := Lib.hid (fun z hz => by rw [← HU.out, List.map_append, List.map_cons] at hz; exact (List.mem_append.1 hz).elim (fun h => HSUB.out z (by cases h)) (fun h => (List.mem_cons.1 h).elim (fun e => by rw [e]; exact HYM.out) (fun h => HSUB.out z (by cases h))))
            clear hFB q0 q1
            go_wp2_with fail
            go_roundw
            case rel => exact ⟨i + 1, _, _, us9, by omega, by go_num, rfl, (fun h => by omega), hA3, HF9.out, HAI.out, HS9.out, hlU, H0⟩
            case measure => simp [intOf]; omega
          · obtain ⟨g', o', rfl, f0, _⟩ := pp_elem (i := 0) (x := us.getD 0 default) hB (get_ok (by omega))
            clear f0 HZ0
            have hT := part3_pp hB (j := us.length) (Nat.le_refl _)
            rw [List.take_length] at hT
            by_cases hcc : c9 = us.length
            · subst hcc
              have hDD : ReadR v1 6 (.slice (some ⟨g', o', none⟩) 0 0) (rowsP []) := read_nil (by decide) _
              obtain ⟨us9, hus9⟩ : ∃ us9, us ++ y :: ([] : List PP) = us9 := ⟨_, rfl⟩
              have HU := Lib.hid hus9
              have hl9 : (us).length ≤ 1000 ∧ (([] : List PP)).length ≤ 1000 ∧ us9.length ≤ i + 1 ∧ 0 < us9.length := by rw [← hus9]; simp <;> omega
              obtain ⟨hlT, hlD, hlU, hlP⟩ := hl9
              rw [show (us ++ y :: ([] : List PP)) = us9 from hus9] at HAI
              clear hus9
              skip
              go_upto_region 9 with fail
              have hD := drawn_below v1
              replace hT := hT.below hD
              replace hDD := hDD.below hD
              replace hFB := hFB.below hD
              replace q0 := q0.below hD
              replace q1 := q1.below hD
              replace b5 := b5.below hD
              replace H0 := H0.trans (hD.mono H0.size)
              clear hD
              refine wp_region_noPanic ?_
              refine wp_region_held_drew (S := (fun _ => True)) (by kernel_rfl) trivial (fun hHeld => ?_)
              generalize v1.drew = v2 at H0 hT hDD hFB q0 q1 b5 ⊢
              refine wpAnyH_take (i := 0) (v := ?_) rfl (by kernel_rfl) (by kernel_rfl) (by kernel_rfl) (fun _ _ _ h => h) (Or.inl ⟨by rfl, ?_⟩) (by assumption) ?_
              rotate_left
              · (intro w hSw; (try dsimp only at hSw); go_simp; (try with_reducible rfl))
              (try simp only [List.getElem_toArray, List.getElem_cons_zero, Act.put, List.setIfInBounds_toArray, List.set_cons_zero, List.set_cons_succ])
              refine wpAnyH_take (i := 1) (v := ?_) rfl (by kernel_rfl) (by kernel_rfl) (by kernel_rfl) (fun _ _ _ h => h) (Or.inl ⟨by rfl, ?_⟩) (by assumption) ?_
              rotate_left
              · (intro w hSw; (try dsimp only at hSw); go_simp; (try with_reducible rfl))
              (try simp only [List.getElem_toArray, List.getElem_cons_succ, List.getElem_cons_zero, Act.put, List.setIfInBounds_toArray, List.set_cons_zero, List.set_cons_succ])
              refine wpAnyH_take (i := 2) (v := ?_) rfl (by kernel_rfl) (by kernel_rfl) (by kernel_rfl) (fun _ _ _ h => h) (Or.inl ⟨by rfl, ?_⟩) (by assumption) ?_
              rotate_left
              · (intro w hSw; (try dsimp only at hSw); go_simp; (try with_reducible rfl))
              (try simp only [List.getElem_toArray, List.getElem_cons_succ, List.getElem_cons_zero, Act.put, List.setIfInBounds_toArray, List.set_cons_zero, List.set_cons_succ])
              refine wpAnyH_take (i := 3) (v := ?_) rfl (by kernel_rfl) (by kernel_rfl) (by kernel_rfl) (fun _ _ _ h => h) (Or.inl ⟨by rfl, ?_⟩) (by assumption) ?_
              rotate_left
              · (intro w hSw; (try dsimp only at hSw); go_simp; (try with_reducible rfl))
              (try simp only [List.getElem_toArray, List.getElem_cons_succ, List.getElem_cons_zero, Act.put, List.setIfInBounds_toArray, List.set_cons_zero, List.set_cons_succ])
              refine wpAnyH_take (i := 6) (v := ?_) rfl (by kernel_rfl) (by kernel_rfl) (by kernel_rfl) (fun _ _ _ h => h) (Or.inl ⟨by rfl, ?_⟩) (by assumption) ?_
              rotate_left
              · (intro w hSw; (try dsimp only at hSw); go_simp; (try with_reducible rfl))
              (try simp only [List.getElem_toArray, List.getElem_cons_succ, List.getElem_cons_zero, Act.put, List.setIfInBounds_toArray, List.set_cons_zero, List.set_cons_succ])
              refine wpAnyH_take (i := 7) (v := ?_) rfl (by kernel_rfl) (by kernel_rfl) (by kernel_rfl) (fun _ _ _ h => h) (Or.inl ⟨by rfl, ?_⟩) (by assumption) ?_
              rotate_left
              · (intro w hSw; (try dsimp only at hSw); go_simp; (try with_reducible rfl))
              (try simp only [List.getElem_toArray, List.getElem_cons_succ, List.getElem_cons_zero, Act.put, List.setIfInBounds_toArray, List.set_cons_zero, List.set_cons_succ])
              refine wpAnyH_take (i := 8) (v := ?_) rfl (by kernel_rfl) (by kernel_rfl) (by kernel_rfl) (fun _ _ _ h => h) (Or.inl ⟨by rfl, ?_⟩) (by assumption) ?_
              rotate_left
              · (intro w hSw; (try dsimp only at hSw); go_simp; (try with_reducible rfl))
              (try simp only [List.getElem_toArray, List.getElem_cons_succ, List.getElem_cons_zero, Act.put, List.setIfInBounds_toArray, List.set_cons_zero, List.set_cons_succ])
              have z0 := b5.cell 0 _ rfl
              have z1 := b5.cell 1 _ rfl
              have z2 := b5.cell 2 _ rfl
              have z3 := b5.cell 3 _ rfl
              have z4 := b5.cell 4 _ rfl
              have z5 := b5.cell 5 _ rfl
              refine wpAnyH_ready (rs := [4]) (by kernel_rfl) (by simp) (AllReadyH.cons (o := _) rfl (fun K hK => ?_) AllReadyH.nil)
              go_simp
              refine hK.out _ _ trivial (fun hHeld => ?_)
              clear hK K z0 z1 z2 z3 z4 z5
              (try simp only [List.getElem_toArray, List.getElem_cons_succ, List.getElem_cons_zero, Act.put, List.setIfInBounds_toArray, List.set_cons_zero, List.set_cons_succ])
              refine wpAnyH_ready (rs := [5]) (by kernel_rfl) (by simp) (AllReadyH.cons (o := _) rfl (fun K hK => ?_) AllReadyH.nil)
              go_simp
              obtain ⟨W3, hW, bL, hbW, hszW3⟩ := boxes1 v2 #[.bool y.s0, .slice y.A0 y.n0 y.c0, .slice y.D0 y.m0 y.e0, .bool y.s1, .slice y.A1 y.n1 y.c1, .slice y.D1 y.m1 y.e1] 51
              rw [hW]
              clear hW hszW3
              replace hT := hT.below hbW
              replace hDD := hDD.below hbW
              replace hFB := hFB.below hbW
              replace q0 := q0.below hbW
              replace q1 := q1.below hbW
              replace b5 := b5.below hbW
              replace H0 := H0.trans (hbW.mono H0.size)
              clear hbW
              refine hK.out _ _ trivial (fun hHeld => ?_)
              clear hK K
              (try simp only [List.getElem_toArray, List.getElem_cons_succ, List.getElem_cons_zero, Act.put, List.setIfInBounds_toArray, List.set_cons_zero, List.set_cons_succ])
              skip
              refine wpAnyH_ready (rs := [9]) (by kernel_rfl) (by simp) (AllReadyH.cons (o := _) rfl (fun K hK => ?_) AllReadyH.nil)
              rw [if_pos (by rfl)]
              refine op_append_read (css := rowsP [y]) (css' := rowsP (([] : List PP))) _ _ rfl elem_gp rfl (box_row bL) rfl hDD (rowsP_one _) (.inl rfl) (by rw [rowsP_len]; omega) ?_
              intro v1_ w1_ hA1 hb1
              replace hT := hT.below hb1
              replace hFB := hFB.below hb1
              replace q0 := q0.below hb1
              replace q1 := q1.below hb1
              replace H0 := H0.trans (hb1.mono H0.size)
              clear hb1
              refine hK.out _ _ trivial (fun hHeld => ?_)
              clear hK K
              (try simp only [List.getElem_toArray, List.getElem_cons_succ, List.getElem_cons_zero, Act.put, List.setIfInBounds_toArray, List.set_cons_zero, List.set_cons_succ])
              refine wpAnyH_ready (rs := [10]) (by kernel_rfl) (by simp) (AllReadyH.cons (o := _) rfl (fun K hK => ?_) AllReadyH.nil)
              rw [if_pos (by rfl)]
              refine op_append_read (css := rowsP (us)) (css' := rowsP [y] ++ rowsP (([] : List PP))) _ _ rfl elem_gp rfl hT rfl hA1 (fun cs h => (List.mem_append.1 h).elim (rowsP_one _ cs) (rowsP_one _ cs)) (.inr (by simp [rowsP_len] <;> omega)) (by simp [rowsP_len] <;> omega) ?_
              intro v2_ w2_ hA2 hb2
              replace hA2 := hA2
              replace hT := hT.below hb2
              replace hFB := hFB.below hb2
              replace q0 := q0.below hb2
              replace q1 := q1.below hb2
              replace H0 := H0.trans (hb2.mono H0.size)
              clear hb2
              have hA3 : ReadR w2_ 6 v2_ (rowsP us9) := by rw [← HU.out]; unfold rowsP at *; rw [List.map_append, List.map_cons]; exact hA2
              obtain ⟨A2_, c2_, hv2, hx1, hx2⟩ := hA3.shape
              rw [rowsP_len] at hv2
              subst hv2
              clear hx1 hx2 hA1 hA2 hDD hT bL b5
              refine hK.out _ _ trivial (fun hHeld => ?_)
              clear hK K
              (try simp only [List.getElem_toArray, List.getElem_cons_succ, List.getElem_cons_zero, Act.put, List.setIfInBounds_toArray, List.set_cons_zero, List.set_cons_succ])
              refine wpAnyH_take (i := 11) (v := ?_) rfl (by kernel_rfl) (by kernel_rfl) (by kernel_rfl) (fun _ _ _ h => h) (Or.inl ⟨by rfl, ?_⟩) (by assumption) ?_
              rotate_left
              · (intro w hSw; (try dsimp only at hSw); go_simp; (try with_reducible rfl))
              (try simp only [List.getElem_toArray, List.getElem_cons_succ, List.getElem_cons_zero, Act.put, List.setIfInBounds_toArray, List.set_cons_zero, List.set_cons_succ])
              refine wpAnyH_done (by kernel_rfl) ?_ _
              refine NoPanic.normal ?_
              have HF9 : Hid (FP w2_ L us9) := Lib.hid (fun z hz => by rw [← HU.out] at hz; exact (List.mem_append.1 hz).elim (fun h => hFB z (h)) (fun h => (List.mem_cons.1 h).elim (fun e => by rw [e]; exact ⟨q0, q1⟩) (fun h => hFB z (by cases h))))
              have HS9 : Hid (∀ z ∈ us9.map PP.pt, z ∈ zs.map PP.pt) := Lib.hid (fun z hz => by rw [← HU.out, List.map_append, List.map_cons] at hz; exact (List.mem_append.1 hz).elim (fun h => HSUB.out z (h)) (fun h => (List.mem_cons.1 h).elim (fun e => by rw [e]; exact HYM.out) (fun h => HSUB.out z (by cases h))))
              clear hFB q0 q1
              go_wp2_with fail
              go_roundw
              case rel => exact ⟨i + 1, _, _, us9, by omega, by go_num, rfl, (fun h => by omega), hA3, HF9.out, HAI.out, HS9.out, hlU, H0⟩
              case measure => simp [intOf]; omega
            · have hDD : ReadR v1 6 (.slice (some ⟨g', o' + us.length * 6, none⟩) 0 (c9 - us.length)) (rowsP []) := read_nil (by omega) _
              obtain ⟨us9, hus9⟩ : ∃ us9, us ++ y :: ([] : List PP) = us9 := ⟨_, rfl⟩
              have HU := Lib.hid hus9
              have hl9 : (us).length ≤ 1000 ∧ (([] : List PP)).length ≤ 1000 ∧ us9.length ≤ i + 1 ∧ 0 < us9.length := by rw [← hus9]; simp <;> omega
              obtain ⟨hlT, hlD, hlU, hlP⟩ := hl9
              rw [show (us ++ y :: ([] : List PP)) = us9 from hus9] at HAI
              clear hus9
              skip
              go_upto_region 9 with fail
              have hD := drawn_below v1
              replace hT := hT.below hD
              replace hDD := hDD.below hD
              replace hFB := hFB.below hD
              replace q0 := q0.below hD
              replace q1 := q1.below hD
              replace b5 := b5.below hD
              replace H0 := H0.trans (hD.mono H0.size)
              clear hD
              refine wp_region_noPanic ?_
              refine wp_region_held_drew (S := (fun _ => True)) (by kernel_rfl) trivial (fun hHeld => ?_)
              generalize v1.drew = v2 at H0 hT hDD hFB q0 q1 b5 ⊢
              refine wpAnyH_take (i := 0) (v := ?_) rfl (by kernel_rfl) (by kernel_rfl) (by kernel_rfl) (fun _ _ _ h => h) (Or.inl ⟨by rfl, ?_⟩) (by assumption) ?_
              rotate_left
              · (intro w hSw; (try dsimp only at hSw); go_simp; (try with_reducible rfl))
              (try simp only [List.getElem_toArray, List.getElem_cons_zero, Act.put, List.setIfInBounds_toArray, List.set_cons_zero, List.set_cons_succ])
              refine wpAnyH_take (i := 1) (v := ?_) rfl (by kernel_rfl) (by kernel_rfl) (by kernel_rfl) (fun _ _ _ h => h) (Or.inl ⟨by rfl, ?_⟩) (by assumption) ?_
              rotate_left
              · (intro w hSw; (try dsimp only at hSw); go_simp; (try with_reducible rfl))
              (try simp only [List.getElem_toArray, List.getElem_cons_succ, List.getElem_cons_zero, Act.put, List.setIfInBounds_toArray, List.set_cons_zero, List.set_cons_succ])
              refine wpAnyH_take (i := 2) (v := ?_) rfl (by kernel_rfl) (by kernel_rfl) (by kernel_rfl) (fun _ _ _ h => h) (Or.inl ⟨by rfl, ?_⟩) (by assumption) ?_
              rotate_left
              · (intro w hSw; (try dsimp only at hSw); go_simp; (try with_reducible rfl))
              (try simp only [List.getElem_toArray, List.getElem_cons_succ, List.getElem_cons_zero, Act.put, List.setIfInBounds_toArray, List.set_cons_zero, List.set_cons_succ])
              refine wpAnyH_take (i := 3) (v := ?_) rfl (by kernel_rfl) (by kernel_rfl) (by kernel_rfl) (fun _ _ _ h => h) (Or.inl ⟨by rfl, ?_⟩) (by assumption) ?_
              rotate_left
              · (intro w hSw; (try dsimp only at hSw); go_simp; (try with_reducible rfl))
              (try simp only [List.getElem_toArray, List.getElem_cons_succ, List.getElem_cons_zero, Act.put, List.setIfInBounds_toArray, List.set_cons_zero, List.set_cons_succ])
              refine wpAnyH_take (i := 6) (v := ?_) rfl (by kernel_rfl) (by kernel_rfl) (by kernel_rfl) (fun _ _ _ h => h) (Or.inl ⟨by rfl, ?_⟩) (by assumption) ?_
              rotate_left
              · (intro w hSw; (try dsimp only at hSw); go_simp; (try with_reducible rfl))
              (try simp only [List.getElem_toArray, List.getElem_cons_succ, List.getElem_cons_zero, Act.put, List.setIfInBounds_toArray, List.set_cons_zero, List.set_cons_succ])
              refine wpAnyH_take (i := 7) (v := ?_) rfl (by kernel_rfl) (by kernel_rfl) (by kernel_rfl) (fun _ _ _ h => h) (Or.inl ⟨by rfl, ?_⟩) (by assumption) ?_
              rotate_left
              · (intro w hSw; (try dsimp only at hSw); go_simp; (try with_reducible rfl))
              (try simp only [List.getElem_toArray, List.getElem_cons_succ, List.getElem_cons_zero, Act.put, List.setIfInBounds_toArray, List.set_cons_zero, List.set_cons_succ])
              refine wpAnyH_take (i := 8) (v := ?_) rfl (by kernel_rfl) (by kernel_rfl) (by kernel_rfl) (fun _ _ _ h => h) (Or.inl ⟨by rfl, ?_⟩) (by assumption) ?_
              rotate_left
              · (intro w hSw; (try dsimp only at hSw); go_simp; (try with_reducible rfl))
              (try simp only [List.getElem_toArray, List.getElem_cons_succ, List.getElem_cons_zero, Act.put, List.setIfInBounds_toArray, List.set_cons_zero, List.set_cons_succ])
              have z0 := b5.cell 0 _ rfl
              have z1 := b5.cell 1 _ rfl
              have z2 := b5.cell 2 _ rfl
              have z3 := b5.cell 3 _ rfl
              have z4 := b5.cell 4 _ rfl
              have z5 := b5.cell 5 _ rfl
              refine wpAnyH_ready (rs := [4]) (by kernel_rfl) (by simp) (AllReadyH.cons (o := _) rfl (fun K hK => ?_) AllReadyH.nil)
              go_simp
              refine hK.out _ _ trivial (fun hHeld => ?_)
              clear hK K z0 z1 z2 z3 z4 z5
              (try simp only [List.getElem_toArray, List.getElem_cons_succ, List.getElem_cons_zero, Act.put, List.setIfInBounds_toArray, List.set_cons_zero, List.set_cons_succ])
              refine wpAnyH_ready (rs := [5]) (by kernel_rfl) (by simp) (AllReadyH.cons (o := _) rfl (fun K hK => ?_) AllReadyH.nil)
              go_simp
              obtain ⟨W3, hW, bL, hbW, hszW3⟩ := boxes1 v2 #[.bool y.s0, .slice y.A0 y.n0 y.c0, .slice y.D0 y.m0 y.e0, .bool y.s1, .slice y.A1 y.n1 y.c1, .slice y.D1 y.m1 y.e1] 51
              rw [hW]
              clear hW hszW3
              replace hT := hT.below hbW
              replace hDD := hDD.below hbW
              replace hFB := hFB.below hbW
              replace q0 := q0.below hbW
              replace q1 := q1.below hbW
              replace b5 := b5.below hbW
              replace H0 := H0.trans (hbW.mono H0.size)
              clear hbW
              refine hK.out _ _ trivial (fun hHeld => ?_)
              clear hK K
              (try simp only [List.getElem_toArray, List.getElem_cons_succ, List.getElem_cons_zero, Act.put, List.setIfInBounds_toArray, List.set_cons_zero, List.set_cons_succ])
              skip
              refine wpAnyH_ready (rs := [9]) (by kernel_rfl) (by simp) (AllReadyH.cons (o := _) rfl (fun K hK => ?_) AllReadyH.nil)
              rw [if_pos (by rfl)]
              refine op_append_read (css := rowsP [y]) (css' := rowsP (([] : List PP))) _ _ rfl elem_gp rfl (box_row bL) rfl hDD (rowsP_one _) (.inl rfl) (by rw [rowsP_len]; omega) ?_
              intro v1_ w1_ hA1 hb1
              replace hT := hT.below hb1
              replace hFB := hFB.below hb1
              replace q0 := q0.below hb1
              replace q1 := q1.below hb1
              replace H0 := H0.trans (hb1.mono H0.size)
              clear hb1
              refine hK.out _ _ trivial (fun hHeld => ?_)
              clear hK K
              (try simp only [List.getElem_toArray, List.getElem_cons_succ, List.getElem_cons_zero, Act.put, List.setIfInBounds_toArray, List.set_cons_zero, List.set_cons_succ])
              refine wpAnyH_ready (rs := [10]) (by kernel_rfl) (by simp) (AllReadyH.cons (o := _) rfl (fun K hK => ?_) AllReadyH.nil)
              rw [if_pos (by rfl)]
              refine op_append_read (css := rowsP (us)) (css' := rowsP [y] ++ rowsP (([] : List PP))) _ _ rfl elem_gp rfl hT rfl hA1 (fun cs h => (List.mem_append.1 h).elim (rowsP_one _ cs) (rowsP_one _ cs)) (.inr (by simp [rowsP_len] <;> omega)) (by simp [rowsP_len] <;> omega) ?_
              intro v2_ w2_ hA2 hb2
              replace hA2 := hA2
              replace hT := hT.below hb2
              replace hFB := hFB.below hb2
              replace q0 := q0.below hb2
              replace q1 := q1.below hb2
              replace H0 := H0.trans (hb2.mono H0.size)
              clear hb2
              have hA3 : ReadR w2_ 6 v2_ (rowsP us9) := by rw [← HU.out]; unfold rowsP at *; rw [List.map_append, List.map_cons]; exact hA2
              obtain ⟨A2_, c2_, hv2, hx1, hx2⟩ := hA3.shape
              rw [rowsP_len] at hv2
              subst hv2
              clear hx1 hx2 hA1 hA2 hDD hT bL b5
              refine hK.out _ _ trivial (fun hHeld => ?_)
              clear hK K
              (try simp only [List.getElem_toArray, List.getElem_cons_succ, List.getElem_cons_zero, Act.put, List.setIfInBounds_toArray, List.set_cons_zero, List.set_cons_succ])
              refine wpAnyH_take (i := 11) (v := ?_) rfl (by kernel_rfl) (by kernel_rfl) (by kernel_rfl) (fun _ _ _ h => h) (Or.inl ⟨by rfl, ?_⟩) (by assumption) ?_
              rotate_left
              · (intro w hSw; (try dsimp only at hSw); go_simp; (try with_reducible rfl))
              (try simp only [List.getElem_toArray, List.getElem_cons_succ, List.getElem_cons_zero, Act.put, List.setIfInBounds_toArray, List.set_cons_zero, List.set_cons_succ])
              refine wpAnyH_done (by kernel_rfl) ?_ _
              refine NoPanic.normal ?_
              have HF9 : Hid (FP w2_ L us9) := Lib.hid (fun z hz => by rw [← HU.out] at hz; exact (List.mem_append.1 hz).elim (fun h => hFB z (h)) (fun h => (List.mem_cons.1 h).elim (fun e => by rw [e]; exact ⟨q0, q1⟩) (fun h => hFB z (by cases h))))
              have HS9 : Hid (∀ z ∈ us9.map PP.pt, z ∈ zs.map PP.pt) := Lib.hid (fun z hz => by rw [← HU.out, List.map_append, List.map_cons] at hz; exact (List.mem_append.1 hz).elim (fun h => HSUB.out z (h)) (fun h => (List.mem_cons.1 h).elim (fun e => by rw [e]; exact HYM.out) (fun h => HSUB.out z (by cases h))))
              clear hFB q0 q1
              go_wp2_with fail
              go_roundw
              case rel => exact ⟨i + 1, _, _, us9, by omega, by go_num, rfl, (fun h => by omega), hA3, HF9.out, HAI.out, HS9.out, hlU, H0⟩
              case measure => simp [intOf]; omega
    · obtain rfl : i = zs.length := by omega
      clear hS
      go_wp2_with fail
      go_ret
      exact ⟨_, _, us, rfl, HASC.out, HSUB.out, hul, H0⟩
end
end Go.Proofs.YthmmnmajkeoaaabGreatDoor
