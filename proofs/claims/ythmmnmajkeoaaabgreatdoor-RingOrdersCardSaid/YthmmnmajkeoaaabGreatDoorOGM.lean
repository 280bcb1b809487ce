/-
  GmA, GmB in one text.
-/
import Derived.Test.YthmmnmajkeoaaabGreatDoorORgD
import Derived.IntWalk
import Derived.Deep.Cut
import Derived.Laws.Cover1
namespace Go.Proofs.YthmmnmajkeoaaabGreatDoor
section
variable {α : Type} {lt : α → α → Prop} {a : Nat → α} {n i j k s t m : Nat}
/-- The rotation from s comes before that from s'. -/
def RotLt (lt : α → α → Prop) (a : Nat → α) (n s s' : Nat) : Prop := ∃ k, k < n ∧ (∀ t, t < k → a (s + t) = a (s' + t)) ∧ lt (a (s + k)) (a (s' + k))
/-- No rotation comes before that from m. -/
def RotMin (lt : α → α → Prop) (a : Nat → α) (n m : Nat) : Prop := ∀ s, ¬ RotLt lt a n s m
/-- A strict total order. -/
structure StrTot (lt : α → α → Prop) : Prop where
  irr : ∀ x, ¬ lt x x
  trans : ∀ {x y z}, lt x y → lt y z → lt x z
  tot : ∀ x y, lt x y ∨ x = y ∨ lt y x
theorem RotLt.irr (h : StrTot lt) : ¬ RotLt lt a n s s := fun ⟨_, _, _, h1⟩ => h.irr _ h1
theorem RotLt.trans (h : StrTot lt) (h1 : RotLt lt a n i j) (h2 : RotLt lt a n j m) : RotLt lt a n i m := by
  obtain ⟨k, hk, he, hl⟩ := h1
  obtain ⟨k', hk', he', hl'⟩ := h2
  rcases Nat.lt_trichotomy k k' with hc | hc | hc
  · exact ⟨k, hk, fun t ht => (he t ht).trans (he' t (by omega)), by rw [← he' k hc]; exact hl⟩
  · subst hc; exact ⟨k, hk, fun t ht => (he t ht).trans (he' t ht), h.trans hl hl'⟩
  · exact ⟨k', hk', fun t ht => (he t (by omega)).trans (he' t ht), by rw [he k' hc]; exact hl'⟩
/-- Where the first difference is: everything between is not least. -/
theorem rot_skip (he : ∀ t, t < k → a (i + t) = a (j + t)) (hl : lt (a (j + k)) (a (i + k))) (hk : k < n) (ht : t ≤ k) : RotLt lt a n (j + t) (i + t) :=
  ⟨k - t, by omega, fun u hu => by rw [Nat.add_assoc, Nat.add_assoc]; exact (he (t + u) (by omega)).symm, by rw [Nat.add_assoc, Nat.add_assoc, show t + (k - t) = k by omega]; exact hl⟩
theorem rot_shift (hp : ∀ x, a (x + n) = a x) : RotLt lt a n (s + n) m → RotLt lt a n s m := fun ⟨k, hk, he, hl⟩ =>
  ⟨k, hk, fun t ht => by rw [← he t ht, show s + n + t = s + t + n by omega, hp], by rw [show s + n + k = s + k + n by omega, hp] at hl; exact hl⟩
theorem rot_mod (hp : ∀ x, a (x + n) = a x) (hn : 0 < n) (s : Nat) : RotLt lt a n s m → RotLt lt a n (s % n) m := by
  induction s using Nat.strongRecOn with
  | _ s ih =>
    intro h
    rcases Nat.lt_or_ge s n with hs | hs
    · rwa [Nat.mod_eq_of_lt hs]
    · have h1 : RotLt lt a n (s - n) m := rot_shift hp (by rwa [Nat.sub_add_cancel hs])
      have := ih (s - n) (by omega) h1
      rwa [← Nat.mod_eq_sub_mod hs] at this
/-- There is a least rotation, below any bound on the starts. -/
theorem rot_least (h : StrTot lt) (hn : 0 < n) : ∃ m, m < n ∧ ∀ s, s < n → ¬ RotLt lt a n s m := by
  have key : ∀ b, 0 < b → ∃ m, m < b ∧ ∀ s, s < b → ¬ RotLt lt a n s m := by
    intro b
    induction b with
    | zero => intro h0; omega
    | succ b ih =>
      intro _
      rcases Nat.eq_zero_or_pos b with hb | hb
      · subst hb; exact ⟨0, by omega, fun s hs => by rw [show s = 0 by omega]; exact RotLt.irr h⟩
      · obtain ⟨m, hm, hmin⟩ := ih hb
        by_cases hc : RotLt lt a n b m
        · refine ⟨b, by omega, fun s hs hl => ?_⟩
          rcases Nat.lt_or_ge s b with h1 | h1
          · exact hmin s h1 (hl.trans h hc)
          · rw [show s = b by omega] at hl; exact RotLt.irr h hl
        · refine ⟨m, by omega, fun s hs hl => ?_⟩
          rcases Nat.lt_or_ge s b with h1 | h1
          · exact hmin s h1 hl
          · rw [show s = b by omega] at hl; exact hc hl
  exact key n hn
theorem rot_min_of (hp : ∀ x, a (x + n) = a x) (hn : 0 < n) (h : ∀ s, s < n → ¬ RotLt lt a n s m) : RotMin lt a n m := fun s hs => h _ (Nat.mod_lt _ hn) (rot_mod hp hn s hs)
/-- Two least rotations are the same. -/
theorem rot_same (h : StrTot lt) (h1 : RotMin lt a n i) (h2 : RotMin lt a n j) (ht : t < n) : a (i + t) = a (j + t) := by
  induction t using Nat.strongRecOn with
  | _ t ih =>
    rcases h.tot (a (i + t)) (a (j + t)) with hl | he | hl
    · exact absurd ⟨t, ht, fun u hu => ih u hu (by omega), hl⟩ (h2 i)
    · exact he
    · exact absurd ⟨t, ht, fun u hu => (ih u hu (by omega)).symm, hl⟩ (h1 j)
/-- What the search keeps: of the starts before the greater one, all but the lesser one are not least; the rotations from both agree in the first k places. -/
structure Search (lt : α → α → Prop) (a : Nat → α) (n i j k : Nat) : Prop where
  ne : i ≠ j
  agree : ∀ t, t < k → a (i + t) = a (j + t)
  out : ∀ s, s < max i j → s ≠ min i j → ∃ s', RotLt lt a n s' s
theorem Search.start : Search lt a n 0 1 0 := ⟨by omega, fun t ht => by omega, fun s hs hne => by simp at hs hne; omega⟩
theorem Search.same (h : Search lt a n i j k) (he : a (i + k) = a (j + k)) : Search lt a n i j (k + 1) :=
  ⟨h.ne, fun t ht => (Nat.lt_succ_iff_lt_or_eq.1 ht).elim (h.agree t) (fun e => by rw [e]; exact he), h.out⟩
theorem Search.swap (h : Search lt a n i j k) : Search lt a n j i k := ⟨h.ne.symm, fun t ht => (h.agree t ht).symm, fun s hs hne => h.out s (by omega) (by omega)⟩
theorem Search.left (h : Search lt a n i j k) (hl : lt (a (j + k)) (a (i + k))) (hk : k < n) : ∀ s, s < max (i + k + 1) j → s ≠ min (i + k + 1) j → ∃ s', RotLt lt a n s' s := fun s hs hne => by
  by_cases h1 : i ≤ s ∧ s ≤ i + k
  · have := rot_skip (n := n) h.agree hl hk (t := s - i) (by omega)
    rw [show i + (s - i) = s by omega] at this
    exact ⟨_, this⟩
  · exact h.out s (by omega) (by omega)
theorem Search.less (h : Search lt a n i j k) (hl : lt (a (j + k)) (a (i + k))) (hk : k < n) (hne : i + k + 1 ≠ j) : Search lt a n (i + k + 1) j 0 := ⟨hne, fun t ht => by omega, h.left hl hk⟩
theorem Search.less' (h : Search lt a n i j k) (hl : lt (a (j + k)) (a (i + k))) (hk : k < n) (he : i + k + 1 = j) : Search lt a n (i + k + 1) (j + 1) 0 :=
  ⟨by omega, fun t ht => by omega, fun s hs hne => by
    by_cases h1 : i ≤ s ∧ s ≤ i + k
    · have := rot_skip (n := n) h.agree hl hk (t := s - i) (by omega)
      rw [show i + (s - i) = s by omega] at this
      exact ⟨_, this⟩
    · exact h.out s (by omega) (by omega)⟩
theorem Search.more' (h : Search lt a n i j k) (hl : lt (a (i + k)) (a (j + k))) (hk : k < n) (he : i = j + k + 1) : Search lt a n i (j + k + 1 + 1) 0 :=
  ⟨by omega, fun t ht => by omega, fun s hs hne => by
    by_cases h1 : j ≤ s ∧ s ≤ j + k
    · have := rot_skip (n := n) h.swap.agree hl hk (t := s - j) (by omega)
      rw [show j + (s - j) = s by omega] at this
      exact ⟨_, this⟩
    · exact h.out s (by omega) (by omega)⟩
/-- The end: the lesser one is the start of a least rotation. -/
theorem Search.done (h : Search lt a n i j k) (hT : StrTot lt) (hn : 0 < n) (hp : ∀ x, a (x + n) = a x) (he : n ≤ max (max i j) k) : min i j < n ∧ RotMin lt a n (min i j) := by
  obtain ⟨m, hm, hmin⟩ := rot_least (a := a) hT hn
  have hM := rot_min_of hp hn hmin
  have hout : ∀ s, s < max i j → RotMin lt a n s → s = min i j := fun s hs hs2 => by
    rcases Nat.decEq s (min i j) with h1 | h1
    · obtain ⟨s', h2⟩ := h.out s hs h1
      exact absurd h2 (hs2 s')
    · exact h1
  by_cases hc : n ≤ max i j
  · have := hout m (by omega) hM
    rw [← this]; exact ⟨hm, hM⟩
  · have hk : n ≤ k := by omega
    -- the whole rotations agree
    have hd : ∀ x, min i j ≤ x → a (x + (max i j - min i j)) = a x := by
      have hall : ∀ t, a (i + t) = a (j + t) := by
        intro t
        induction t using Nat.strongRecOn with
        | _ t ih =>
          rcases Nat.lt_or_ge t k with h1 | h1
          · exact h.agree t h1
          · have := ih (t - n) (by omega)
            rw [show i + t = i + (t - n) + n by omega, show j + t = j + (t - n) + n by omega, hp, hp]; exact this
      intro x hx
      rcases Nat.lt_or_ge i j with h1 | h1
      · have := hall (x - i)
        rw [show x + (max i j - min i j) = j + (x - i) by omega, ← this, show i + (x - i) = x by omega]
      · have := hall (x - j)
        rw [show x + (max i j - min i j) = i + (x - j) by omega, this, show j + (x - j) = x by omega]
    have key : ∀ m, min i j ≤ m → RotMin lt a n m → RotMin lt a n (min i j) := by
      intro m
      induction m using Nat.strongRecOn with
      | _ m ih =>
        intro hge hmm
        rcases Nat.lt_or_ge m (max i j) with h1 | h1
        · rw [← hout m h1 hmm]; exact hmm
        · have hne := h.ne
          refine ih (m - (max i j - min i j)) (by omega) (by omega) (fun s ⟨k', hk', he', hl'⟩ => hmm s ⟨k', hk', fun t ht => ?_, ?_⟩)
          · rw [he' t ht, ← hd (m - (max i j - min i j) + t) (by omega)]; congr 1; omega
          · rw [← hd (m - (max i j - min i j) + k') (by omega), show m - (max i j - min i j) + k' + (max i j - min i j) = m + k' by omega] at hl'; exact hl'
    refine ⟨by omega, ?_⟩
    rcases Nat.lt_or_ge m (max i j) with h1 | h1
    · rw [← hout m h1 hM]; exact hM
    · exact key m (by omega) hM
end
end Go.Proofs.YthmmnmajkeoaaabGreatDoor
namespace Go.Proofs.YthmmnmajkeoaaabGreatDoor
open Go.RowKit
/-- The order of points. -/
def ptLt (x y : Rat × Rat) : Prop := x.1 < y.1 ∨ (x.1 = y.1 ∧ x.2 < y.2)
theorem ptLt_tot : StrTot ptLt where
  irr := fun x h => by rcases h with h | ⟨_, h⟩ <;> exact absurd h (by grind)
  trans := fun {x y z} h h' => by
    rcases h with h | ⟨e, h⟩ <;> rcases h' with h' | ⟨e', h'⟩
    · exact .inl (by grind)
    · exact .inl (by grind)
    · exact .inl (by grind)
    · exact .inr ⟨by grind, by grind⟩
  tot := fun x y => by
    obtain ⟨a, b⟩ := x
    obtain ⟨c, d⟩ := y
    unfold ptLt
    rcases rsg_cases (a - c) with ⟨_, h⟩ | ⟨_, h⟩ | ⟨_, h⟩
    · exact .inr (.inr (.inl (by show c < a; grind)))
    · have e : a = c := by grind
      subst e
      rcases rsg_cases (b - d) with ⟨_, h⟩ | ⟨_, h⟩ | ⟨_, h⟩
      · exact .inr (.inr (.inr ⟨rfl, by show d < b; grind⟩))
      · have e : b = d := by grind
        subst e; exact .inr (.inl rfl)
      · exact .inl (.inr ⟨rfl, by show b < d; grind⟩)
    · exact .inl (.inl (by show a < c; grind))
theorem cmpQ_lt {x y : PP} : (cmpQ x.q0 x.q1 y.q0 y.q1 = 1 ∧ ptLt y.pt x.pt) ∨ (cmpQ x.q0 x.q1 y.q0 y.q1 = 0 ∧ x.pt = y.pt) ∨ (cmpQ x.q0 x.q1 y.q0 y.q1 = -1 ∧ ptLt x.pt y.pt) := by
  unfold cmpQ ptLt PP.pt
  rcases rsg_cases (x.q0 - y.q0) with ⟨e, h⟩ | ⟨e, h⟩ | ⟨e, h⟩
  · exact .inl ⟨by rw [e]; rfl, .inl (by show y.q0 < x.q0; grind)⟩
  · have e0 : x.q0 = y.q0 := by grind
    rw [if_pos e]
    rcases rsg_cases (x.q1 - y.q1) with ⟨e', h'⟩ | ⟨e', h'⟩ | ⟨e', h'⟩
    · exact .inl ⟨e', .inr ⟨e0.symm, by show y.q1 < x.q1; grind⟩⟩
    · exact .inr (.inl ⟨e', by rw [e0, show x.q1 = y.q1 by grind]⟩)
    · exact .inr (.inr ⟨e', .inr ⟨e0, by show x.q1 < y.q1; grind⟩⟩)
  · exact .inr (.inr ⟨by rw [e]; rfl, .inl (by show x.q0 < y.q0; grind)⟩)
theorem max3_run {i j k m : Nat} (h : max (max i j) k = m) (ts : Array TypeId) (t : TypeId) (W : World) : (Builtin.max_ ts t #[.int .i64 (i : Int), .int .i64 (j : Int), .int .i64 (k : Int)]).run Tryz.prog W = .ok (.int .i64 (m : Int)) W := by
  rw [run_max_int3]
  congr 2
  subst h
  repeat' split
  all_goals omega
theorem min2_run {i j m : Nat} (h : min i j = m) (ts : Array TypeId) (t : TypeId) (W : World) : (Builtin.min_ ts t #[.int .i64 (i : Int), .int .i64 (j : Int)]).run Tryz.prog W = .ok (.int .i64 (m : Int)) W := by
  rw [run_min_int2]
  congr 2
  subst h
  repeat' split
  all_goals omega
/-- The vertices, round and round. -/
def rotF (zs : List PP) (x : Nat) : Rat × Rat := (zs.getD (x % zs.length) default).pt
theorem rotF_per (zs : List PP) (x : Nat) : rotF zs (x + zs.length) = rotF zs x := by unfold rotF; rw [Nat.add_mod_right]
set_option maxRecDepth 100000 in
set_option maxHeartbeats 4000000 in
theorem lstart_v {w : World} {L : Nat} {A : Option Addr} {n c : Nat} {zs : List PP} (hS : ReadR w 6 (.slice A n c) (rowsP zs)) (hF : FN w L zs) (h1 : 0 < zs.length) (hn : zs.length ≤ 90000) (hL : L ≤ 100000) :
    Calls Tryz.prog 25 #[.slice A n c] w fun e w' => ∃ m : Nat, e = .returned (.int .i64 (m : Int)) ∧ m < zs.length ∧ RotMin ptLt (rotF zs) zs.length m ∧ Below w.heap.size w w' := by
  obtain rfl := pp_len hS
  go_enter Tryz.func25, Tryz.ntmps25
  go_wp2_with fail
  go_loopw [4, 5, 6] (fun t4 t5 t6 wr => ∃ (i j k : Nat), t4 = .int .i64 (i : Int) ∧ t5 = .int .i64 (j : Int) ∧ t6 = .int .i64 (k : Int) ∧ i ≤ 3 * zs.length ∧ j ≤ 3 * zs.length ∧ k ≤ 3 * zs.length ∧ Search ptLt (rotF zs) zs.length i j k ∧ Below w.heap.size w wr) (fun t4 t5 t6 _ => 3 * zs.length + 3 - ((intOf t4).toNat + (intOf t5).toNat + (intOf t6).toNat))
  case atStart => exact ⟨0, 1, 0, rfl, rfl, rfl, by omega, by omega, by omega, Search.start, Below.refl _ _⟩
  case round =>
    obtain ⟨i, j, k, rfl, rfl, rfl, hi, hj, hk, hse, H0⟩ := hrel
    have HSE := Lib.hid hse
    clear hse
    obtain ⟨mx, hmx⟩ : ∃ m, max (max i j) k = m := ⟨_, rfl⟩
    have HMX := Lib.hid hmx
    have hmr := fun W => max3_run hmx #[3, 3, 3] 3 W
    by_cases hlt : mx < zs.length
    · have hi2 : i < zs.length := by omega
      have hj2 : j < zs.length := by omega
      have hk2 : k < zs.length := by omega
      obtain ⟨u, hu⟩ : ∃ u, (i + k) % zs.length = u := ⟨_, rfl⟩
      obtain ⟨v, hv⟩ : ∃ v, (j + k) % zs.length = v := ⟨_, rfl⟩
      obtain ⟨x, hx⟩ : ∃ x, zs.getD u default = x := ⟨_, rfl⟩
      obtain ⟨y, hy⟩ : ∃ y, zs.getD v default = y := ⟨_, rfl⟩
      have hlu : u < zs.length := by rw [← hu]; exact Nat.mod_lt _ h1
      have hlv : v < zs.length := by rw [← hv]; exact Nat.mod_lt _ h1
      have HX : Hid (rotF zs (i + k) = x.pt) := Lib.hid (by unfold rotF; rw [hu, hx])
      have HY : Hid (rotF zs (j + k) = y.pt) := Lib.hid (by unfold rotF; rw [hv, hy])
      have hx1 : zs[u]? = some x := by rw [← hx]; exact get_ok hlu
      have hy1 : zs[v]? = some y := by rw [← hy]; exact get_ok hlv
      have hne0 : ¬ zs = [] := by rintro rfl; simp at h1
      have w1 : IntKind.i64.wrap ((i : Int) + (k : Int)) = (i : Int) + (k : Int) := IntWalk.i64_in _ (by omega)
      have w2 : IntKind.i64.wrap ((j : Int) + (k : Int)) = (j : Int) + (k : Int) := IntWalk.i64_in _ (by omega)
      have m1 : ((i : Int) + (k : Int)).tmod (zs.length : Int) = (u : Int) := by rw [Int.tmod_eq_emod_of_nonneg (by omega), ← hu]; simp
      have m2 : ((j : Int) + (k : Int)).tmod (zs.length : Int) = (v : Int) := by rw [Int.tmod_eq_emod_of_nonneg (by omega), ← hv]; simp
      obtain ⟨g, o, rfl, e0, e1, e2, e3, e4, e5⟩ := pp_elem (hS.below H0) hx1
      obtain ⟨g', o', hA2, f0, f1, f2, f3, f4, f5⟩ := pp_elem (hS.below H0) hy1
      injection hA2 with hA2
      injection hA2 with hg1 hg2
      subst hg1 hg2
      obtain ⟨p0, p1⟩ := (hF.below H0) x (List.mem_of_getElem? hx1)
      obtain ⟨q0, q1⟩ := (hF.below H0) y (List.mem_of_getElem? hy1)
      clear hx hy hx1 hy1 hu hv hmx
      have dm : decide ((mx : Int) < (zs.length : Int)) = true := decide_eq_true (by omega)
      go_upto_region 4 with fail
      obtain ⟨kc, hc⟩ : ∃ k, cmpQ x.q0 x.q1 y.q0 y.q1 = k := ⟨_, rfl⟩
      have HC := Lib.hid hc
      clear hc
      have hD := drawn_below wr
      replace p0 := p0.below hD
      replace p1 := p1.below hD
      replace q0 := q0.below hD
      replace q1 := q1.below hD
      replace e0 := e0.below hD
      replace e1 := e1.below hD
      replace e2 := e2.below hD
      replace e3 := e3.below hD
      replace e4 := e4.below hD
      replace e5 := e5.below hD
      replace f0 := f0.below hD
      replace f1 := f1.below hD
      replace f2 := f2.below hD
      replace f3 := f3.below hD
      replace f4 := f4.below hD
      replace f5 := f5.below hD
      replace H0 := H0.trans (hD.mono H0.size)
      clear hD
      refine wp_region_noPanic ?_
      refine wp_region_held_drew (S := (fun V => V.cell? ⟨g, o + u * 6, none⟩ = some (.bool x.s0) ∧ V.cell? ⟨g, o + u * 6 + 1, none⟩ = some (.slice x.A0 x.n0 x.c0) ∧ V.cell? ⟨g, o + u * 6 + 2, none⟩ = some (.slice x.D0 x.m0 x.e0) ∧ V.cell? ⟨g, o + u * 6 + 3, none⟩ = some (.bool x.s1) ∧ V.cell? ⟨g, o + u * 6 + 4, none⟩ = some (.slice x.A1 x.n1 x.c1) ∧ V.cell? ⟨g, o + u * 6 + 5, none⟩ = some (.slice x.D1 x.m1 x.e1) ∧ V.cell? ⟨g, o + v * 6, none⟩ = some (.bool y.s0) ∧ V.cell? ⟨g, o + v * 6 + 1, none⟩ = some (.slice y.A0 y.n0 y.c0) ∧ V.cell? ⟨g, o + v * 6 + 2, none⟩ = some (.slice y.D0 y.m0 y.e0) ∧ V.cell? ⟨g, o + v * 6 + 3, none⟩ = some (.bool y.s1) ∧ V.cell? ⟨g, o + v * 6 + 4, none⟩ = some (.slice y.A1 y.n1 y.c1) ∧ V.cell? ⟨g, o + v * 6 + 5, none⟩ = some (.slice y.D1 y.m1 y.e1))) (by kernel_rfl) ⟨e0.eq, e1.eq, e2.eq, e3.eq, e4.eq, e5.eq, f0.eq, f1.eq, f2.eq, f3.eq, f4.eq, f5.eq⟩ (fun hHeld => ?_)
      generalize wr.drew = v0 at H0 hHeld p0 p1 q0 q1 e0 e1 e2 e3 e4 e5 f0 f1 f2 f3 f4 f5 ⊢
      refine wpAnyH_take (i := 0) (v := ?_) rfl (by kernel_rfl) (by kernel_rfl) (by kernel_rfl) (fun _ _ _ h => h) (Or.inl ⟨by rfl, ?_⟩) (by assumption) ?_
      rotate_left
      · (intro w hSw; (try dsimp only at hSw); go_simp; (try with_reducible rfl))
      (try simp only [List.getElem_toArray, List.getElem_cons_zero, Act.put, List.setIfInBounds_toArray, List.set_cons_zero, List.set_cons_succ])
      refine wpAnyH_take (i := 1) (v := ?_) rfl (by kernel_rfl) (by kernel_rfl) (by kernel_rfl) (fun _ _ _ h => h) (Or.inl ⟨by rfl, ?_⟩) (by assumption) ?_
      rotate_left
      · (intro w hSw; (try dsimp only at hSw); go_simp; (try with_reducible rfl))
      (try simp only [List.getElem_toArray, List.getElem_cons_succ, List.getElem_cons_zero, Act.put, List.setIfInBounds_toArray, List.set_cons_zero, List.set_cons_succ])
      refine wpAnyH_take (i := 2) (v := ?_) rfl (by kernel_rfl) (by kernel_rfl) (by kernel_rfl) (fun _ _ _ h => h) (Or.inl ⟨by rfl, ?_⟩) (by assumption) ?_
      rotate_left
      · (intro w hSw; (try dsimp only at hSw); go_simp; (try with_reducible rfl))
      (try simp only [List.getElem_toArray, List.getElem_cons_succ, List.getElem_cons_zero, Act.put, List.setIfInBounds_toArray, List.set_cons_zero, List.set_cons_succ])
      refine wpAnyH_take (i := 4) (v := ?_) rfl (by kernel_rfl) (by kernel_rfl) (by kernel_rfl) (fun _ _ _ h => h) (Or.inl ⟨by rfl, ?_⟩) (by assumption) ?_
      rotate_left
      · (intro w hSw; (try dsimp only at hSw); go_simp; (try with_reducible rfl))
      (try simp only [List.getElem_toArray, List.getElem_cons_succ, List.getElem_cons_zero, Act.put, List.setIfInBounds_toArray, List.set_cons_zero, List.set_cons_succ])
      refine wpAnyH_take (i := 8) (v := ?_) rfl (by kernel_rfl) (by kernel_rfl) (by kernel_rfl) (fun _ _ _ h => h) (Or.inl ⟨by rfl, ?_⟩) (by assumption) ?_
      rotate_left
      · (intro w hSw; (try dsimp only at hSw); go_simp; (try with_reducible rfl))
      (try simp only [List.getElem_toArray, List.getElem_cons_succ, List.getElem_cons_zero, Act.put, List.setIfInBounds_toArray, List.set_cons_zero, List.set_cons_succ])
      refine wpAnyH_take (i := 9) (v := ?_) rfl (by kernel_rfl) (by kernel_rfl) (by kernel_rfl) (fun _ _ _ h => h) (Or.inl ⟨by rfl, ?_⟩) (by assumption) ?_
      rotate_left
      · (intro w hSw; (try dsimp only at hSw); go_simp; (try with_reducible rfl))
      (try simp only [List.getElem_toArray, List.getElem_cons_succ, List.getElem_cons_zero, Act.put, List.setIfInBounds_toArray, List.set_cons_zero, List.set_cons_succ])
      refine wpAnyH_take (i := 10) (v := ?_) rfl (by kernel_rfl) (by kernel_rfl) (by kernel_rfl) (fun _ _ _ h => h) (Or.inl ⟨by rfl, ?_⟩) (by assumption) ?_
      rotate_left
      · (intro w hSw; (try dsimp only at hSw); go_simp; (try with_reducible rfl))
      (try simp only [List.getElem_toArray, List.getElem_cons_succ, List.getElem_cons_zero, Act.put, List.setIfInBounds_toArray, List.set_cons_zero, List.set_cons_succ])
      refine wpAnyH_take (i := 12) (v := ?_) rfl (by kernel_rfl) (by kernel_rfl) (by kernel_rfl) (fun _ _ _ h => h) (Or.inl ⟨by rfl, ?_⟩) (by assumption) ?_
      rotate_left
      · (intro w hSw; (try dsimp only at hSw); go_simp; (try with_reducible rfl))
      (try simp only [List.getElem_toArray, List.getElem_cons_succ, List.getElem_cons_zero, Act.put, List.setIfInBounds_toArray, List.set_cons_zero, List.set_cons_succ])
      refine wpAnyH_take (i := 3) (v := ?_) rfl (by kernel_rfl) (by kernel_rfl) (by kernel_rfl) (fun _ _ _ h => h) (Or.inl ⟨by rfl, ?_⟩) (by assumption) ?_
      rotate_left
      · (intro w hSw; (try dsimp only at hSw); go_simp; (try with_reducible rfl))
      (try simp only [List.getElem_toArray, List.getElem_cons_succ, List.getElem_cons_zero, Act.put, List.setIfInBounds_toArray, List.set_cons_zero, List.set_cons_succ])
      refine wpAnyH_take (i := 11) (v := ?_) rfl (by kernel_rfl) (by kernel_rfl) (by kernel_rfl) (fun _ _ _ h => h) (Or.inl ⟨by rfl, ?_⟩) (by assumption) ?_
      rotate_left
      · (intro w hSw; (try dsimp only at hSw); go_simp; (try with_reducible rfl))
      (try simp only [List.getElem_toArray, List.getElem_cons_succ, List.getElem_cons_zero, Act.put, List.setIfInBounds_toArray, List.set_cons_zero, List.set_cons_succ])
      refine wpAnyH_take (i := 5) (v := ?_) rfl (by kernel_rfl) (by kernel_rfl) (by kernel_rfl) (fun _ _ _ h => h) (Or.inl ⟨by rfl, ?_⟩) (by assumption) ?_
      rotate_left
      · (intro w hSw; (try dsimp only at hSw); go_simp; (try with_reducible rfl))
      (try simp only [List.getElem_toArray, List.getElem_cons_succ, List.getElem_cons_zero, Act.put, List.setIfInBounds_toArray, List.set_cons_zero, List.set_cons_succ])
      refine wpAnyH_take (i := 13) (v := ?_) rfl (by kernel_rfl) (by kernel_rfl) (by kernel_rfl) (fun _ _ _ h => h) (Or.inl ⟨by rfl, ?_⟩) (by assumption) ?_
      rotate_left
      · (intro w hSw; (try dsimp only at hSw); go_simp; (try with_reducible rfl))
      (try simp only [List.getElem_toArray, List.getElem_cons_succ, List.getElem_cons_zero, Act.put, List.setIfInBounds_toArray, List.set_cons_zero, List.set_cons_succ])
      refine wpAnyH_take (i := 6) (v := ?_) rfl (by kernel_rfl) (by kernel_rfl) (by kernel_rfl) (fun _ _ _ h => h) (Or.inl ⟨by rfl, ?_⟩) (by assumption) ?_
      rotate_left
      · (intro w hSw; (try dsimp only at hSw); go_simp; (try with_reducible rfl))
      (try simp only [List.getElem_toArray, List.getElem_cons_succ, List.getElem_cons_zero, Act.put, List.setIfInBounds_toArray, List.set_cons_zero, List.set_cons_succ])
      refine wpAnyH_take (i := 14) (v := ?_) rfl (by kernel_rfl) (by kernel_rfl) (by kernel_rfl) (fun _ _ _ h => h) (Or.inl ⟨by rfl, ?_⟩) (by assumption) ?_
      rotate_left
      · (intro w hSw; (try dsimp only at hSw); go_simp; (try with_reducible rfl))
      (try simp only [List.getElem_toArray, List.getElem_cons_succ, List.getElem_cons_zero, Act.put, List.setIfInBounds_toArray, List.set_cons_zero, List.set_cons_succ])
      refine wpAnyH_take (i := 7) (v := ?_) rfl (by kernel_rfl) (by kernel_rfl) (by kernel_rfl) (fun _ _ _ h => h) (Or.inl ⟨by rfl, ?_⟩) (by assumption) ?_
      rotate_left
      · (intro w hSw; (try dsimp only at hSw); go_simp; (try with_reducible rfl))
      (try simp only [List.getElem_toArray, List.getElem_cons_succ, List.getElem_cons_zero, Act.put, List.setIfInBounds_toArray, List.set_cons_zero, List.set_cons_succ])
      refine wpAnyH_take (i := 15) (v := ?_) rfl (by kernel_rfl) (by kernel_rfl) (by kernel_rfl) (fun _ _ _ h => h) (Or.inl ⟨by rfl, ?_⟩) (by assumption) ?_
      rotate_left
      · (intro w hSw; (try dsimp only at hSw); go_simp; (try with_reducible rfl))
      (try simp only [List.getElem_toArray, List.getElem_cons_succ, List.getElem_cons_zero, Act.put, List.setIfInBounds_toArray, List.set_cons_zero, List.set_cons_succ])
      refine wpAnyH_ready (rs := [16]) (by kernel_rfl) (by simp) (AllReadyH.cons (o := _) rfl (fun K hK => ?_) AllReadyH.nil)
      go_simp
      go_at_call 29
      refine (pcompare_v p0.rq p1.rq q0.rq q1.rq hL hL HC.out).mono ?_
      rintro e w1 ⟨rfl, hb⟩
      replace p0 := p0.below hb
      replace p1 := p1.below hb
      replace q0 := q0.below hb
      replace q1 := q1.below hb
      replace e0 := e0.below hb
      replace e1 := e1.below hb
      replace e2 := e2.below hb
      replace e3 := e3.below hb
      replace e4 := e4.below hb
      replace e5 := e5.below hb
      replace f0 := f0.below hb
      replace f1 := f1.below hb
      replace f2 := f2.below hb
      replace f3 := f3.below hb
      replace f4 := f4.below hb
      replace f5 := f5.below hb
      replace H0 := H0.trans (hb.mono H0.size)
      clear hb
      go_wp2_with fail
      refine hK.out _ _ ⟨e0.eq, e1.eq, e2.eq, e3.eq, e4.eq, e5.eq, f0.eq, f1.eq, f2.eq, f3.eq, f4.eq, f5.eq⟩ (fun hHeld => ?_)
      clear hK K
      (try simp only [List.getElem_toArray, List.getElem_cons_succ, List.getElem_cons_zero, Act.put, List.setIfInBounds_toArray, List.set_cons_zero, List.set_cons_succ])
      refine wpAnyH_done (by kernel_rfl) ?_ _
      refine NoPanic.normal ?_
      clear e0 e1 e2 e3 e4 e5 f0 f1 f2 f3 f4 f5 p0 p1 q0 q1 hS hF
      have wk : IntKind.i64.wrap ((k : Int) + 1) = (k : Int) + 1 := IntWalk.i64_in _ (by omega)
      have wj : IntKind.i64.wrap ((j : Int) + 1) = (j : Int) + 1 := IntWalk.i64_in _ (by omega)
      have wik : IntKind.i64.wrap ((i : Int) + ((k : Int) + 1)) = (i : Int) + ((k : Int) + 1) := IntWalk.i64_in _ (by omega)
      have wjk : IntKind.i64.wrap ((j : Int) + ((k : Int) + 1)) = (j : Int) + ((k : Int) + 1) := IntWalk.i64_in _ (by omega)
      have wjk1 : IntKind.i64.wrap ((j : Int) + ((k : Int) + 1) + 1) = (j : Int) + ((k : Int) + 1) + 1 := IntWalk.i64_in _ (by omega)
      rcases (cmpQ_lt (x := x) (y := y)) with ⟨e, hl⟩ | ⟨e, hl⟩ | ⟨e, hl⟩
      · rw [HC.out] at e
        subst e
        rw [← HX.out, ← HY.out] at hl
        have HLL := Lib.hid hl
        clear hl
        by_cases hq : i + k + 1 = j
        · have dq : ((i : Int) + ((k : Int) + 1) == (j : Int)) = true := by rw [beq_iff_eq]; omega
          go_wp2_with fail
          go_roundw
          case rel => exact ⟨i + k + 1, j + 1, 0, by go_num, by go_num, rfl, by omega, by omega, by omega, HSE.out.less' HLL.out hk2 hq, H0⟩
          case measure => simp [intOf]; omega
        · have dq : ((i : Int) + ((k : Int) + 1) == (j : Int)) = false := by rw [beq_eq_false_iff_ne]; omega
          go_wp2_with fail
          go_roundw
          case rel => exact ⟨i + k + 1, j, 0, by go_num, rfl, rfl, by omega, by omega, by omega, HSE.out.less HLL.out hk2 hq, H0⟩
          case measure => simp [intOf]; omega
      · rw [HC.out] at e
        subst e
        rw [← HX.out, ← HY.out] at hl
        have HLL := Lib.hid hl
        clear hl
        go_wp2_with fail
        go_roundw
        case rel => exact ⟨i, j, k + 1, rfl, rfl, by go_num, hi, hj, by omega, HSE.out.same HLL.out, H0⟩
        case measure => simp [intOf]; omega
      · rw [HC.out] at e
        subst e
        rw [← HX.out, ← HY.out] at hl
        have HLL := Lib.hid hl
        clear hl
        by_cases hq : i = j + k + 1
        · have dq : ((i : Int) == (j : Int) + ((k : Int) + 1)) = true := by rw [beq_iff_eq]; omega
          go_wp2_with fail
          go_roundw
          case rel => exact ⟨i, j + k + 1 + 1, 0, rfl, by go_num, rfl, by omega, by omega, by omega, HSE.out.more' HLL.out hk2 hq, H0⟩
          case measure => simp [intOf]; omega
        · have dq : ((i : Int) == (j : Int) + ((k : Int) + 1)) = false := by rw [beq_eq_false_iff_ne]; omega
          go_wp2_with fail
          go_roundw
          case rel => exact ⟨i, j + k + 1, 0, rfl, by go_num, rfl, by omega, by omega, by omega, (HSE.out.swap.less HLL.out hk2 (by omega)).swap, H0⟩
          case measure => simp [intOf]; omega
    · have dm : decide ((mx : Int) < (zs.length : Int)) = false := decide_eq_false (by omega)
      obtain ⟨mn, hmn⟩ : ∃ m, min i j = m := ⟨_, rfl⟩
      have hmr2 := fun W => min2_run hmn #[3, 3] 3 W
      have hd := HSE.out.done ptLt_tot h1 (rotF_per zs) (by rw [HMX.out]; omega)
      rw [hmn] at hd
      have HD := Lib.hid hd
      clear hd hmn hS hF
      go_wp2_with fail
      go_ret
      exact ⟨mn, rfl, HD.out.1, HD.out.2, H0⟩
end Go.Proofs.YthmmnmajkeoaaabGreatDoor
