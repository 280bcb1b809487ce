/-
  Union, Intersect, Subtract and Complement of sets.
-/
import Derived.Test.YtpgkkkodniiilaaGreatDoorWSpH
namespace Go.Proofs.YtpgkkkodniiilaaGreatDoor
open Go.RowKit
section
variable {f0 h0 f1 h1 f2 h2 f3 h3 f4 h4 f5 h5 f6 h6 f7 h7 f8 h8 f9 h9 f10 h10 f11 h11 : Bool}    {q0 q1 q2 q3 q4 q5 q6 q7 : Rat} {z0 z1 z2 z3 z4 z5 z6 z7 z8 z9 z10 z11 : Int} {L L0 L1 x y : Nat} {k : Int} {b : Bool} {w : World}
variable {o0 o1 o2 o3 : Option Rat} {l l' : List Sp}
theorem TalV.below {w' : World} {v : Value} {o : Int} {m : List (Rat × Int)} (h : TalV w L v o m) (hb : Below w.heap.size w w') : TalV w' L v o m := by
  obtain ⟨A, n, c, h1, h2⟩ := h
  exact ⟨A, n, c, h1, h2.below hb⟩
theorem mkS_ok (ts : List Rat) : Asc ts → OkS (mkS none ts) ∧ ∀ lo, (∀ t ∈ ts, ∀ a, lo = some a → a < t) → OkS (mkS (some lo) ts) := by
  induction ts with
  | nil => exact fun _ => ⟨fun s h => (by cases h), fun lo _ s h a b _ h2 => by have := List.mem_singleton.1 h; subst this; cases h2⟩
  | cons t ts ih =>
    intro h
    obtain ⟨i1, i2⟩ := ih h.2
    refine ⟨i2 _ fun u hu a ha => by injection ha with ha; subst ha; exact h.1 u hu, fun lo hl s hs a b h1 h2 => ?_⟩
    rcases List.mem_cons.1 hs with rfl | hs
    · injection h2 with h2; subst h2; exact hl t (List.mem_cons_self ..) a h1
    · exact i1 s hs a b h1 h2
theorem set_ok {b : Bool} {ts : List Rat} (h : Asc ts) : OkS (spansOf b ts) := by
  cases b
  · exact (mkS_ok ts h).1
  · exact (mkS_ok ts h).2 none fun t _ a ha => (by cases ha)
theorem mkS_head (ts : List Rat) : (∀ s, (mkS none ts)[0]? = some s → ∃ a, s.lo = some a ∧ a ∈ ts) ∧ ∀ lo s, (mkS (some lo) ts)[0]? = some s → s.lo = lo := by
  cases ts with
  | nil => exact ⟨fun s h => (by cases h), fun lo s h => by injection h with h; subst h; rfl⟩
  | cons t ts =>
    refine ⟨fun s h => ⟨t, ?_, List.mem_cons_self ..⟩, fun lo s h => by injection h with h; subst h; rfl⟩
    have h' : (mkS (some (some t)) ts)[0]? = some s := h
    cases ts with
    | nil => injection h' with h'; subst h'; rfl
    | cons u ts => injection h' with h'; subst h'; rfl
theorem mkS_sep (ts : List Rat) : Asc ts → SepS (mkS none ts) ∧ ∀ lo, SepS (mkS (some lo) ts) := by
  induction ts with
  | nil => exact fun _ => ⟨fun i s t h => (by cases h), fun lo i s t h1 h2 => by cases i <;> cases h2⟩
  | cons t ts ih =>
    intro h
    obtain ⟨i1, i2⟩ := ih h.2
    refine ⟨i2 _, fun lo i s u h1 h2 => ?_⟩
    cases i with
    | zero =>
      injection h1 with h1; subst h1
      obtain ⟨a, h3, h4⟩ := (mkS_head ts).1 u h2
      exact ⟨t, a, rfl, h3, h.1 a h4⟩
    | succ i => exact i1 i s u h1 h2
theorem set_sep {b : Bool} {ts : List Rat} (h : Asc ts) : SepS (spansOf b ts) := by
  cases b
  · exact (mkS_sep ts h).1
  · exact (mkS_sep ts h).2 none
theorem unit_alt (k : Int) (hk : k = 1 ∨ k = -1) (ts : List Rat) : Unit1 (alt k ts) := by
  induction ts generalizing k with
  | nil => intro e h; cases h
  | cons t ts ih =>
    intro e h
    rcases List.mem_cons.1 h with rfl | h
    · exact hk
    · exact ih (-k) (by omega) e h
theorem kb_unit (b : Bool) : kb b = 1 ∨ kb b = -1 := by cases b <;> simp [kb]
theorem ob_bd (b : Bool) : 0 ≤ ob b ∧ ob b ≤ 1 := by cases b <;> decide
/-- The set in memory that begins with b and turns at ts. -/
def SetV (w : World) (L : Nat) (v : Value) (b : Bool) (ts : List Rat) : Prop := SpS w L v (spansOf b ts) ∧ Asc ts
theorem SetV.below {w' : World} {v : Value} {b : Bool} {ts : List Rat} (h : SetV w L v b ts) (hb : Below w.heap.size w w') : SetV w' L v b ts := ⟨h.1.below hb, h.2⟩
theorem setvalid_v {v : Value} {b : Bool} {ts : List Rat} (h : SetV w L v b ts) (hn : ts.length ≤ 4000) (hL : L ≤ 100000) :
    Calls Tryz.prog 17 #[v] w fun e w' => e = .returned (.bool true) ∧ Below w.heap.size w w' :=
  valid_v h.1 (set_ok h.2) (set_sep h.2) (by have := set_len b ts; omega) hL
theorem settally_v {v : Value} {b : Bool} {ts : List Rat} (h : SetV w L v b ts) (hn : ts.length ≤ 4000) :
    Calls Tryz.prog 52 #[v] w fun e w' => ∃ y, e = .returned y ∧ TalV w' L y (ob b) (alt (kb b) ts) ∧ Below w.heap.size w w' := by
  have := tally_v h.1 (by have := set_len b ts; omega)
  rwa [tOpen_set, tEnds_set] at this
/-- A set that is made of two: where it begins, where it may turn, and what it holds. -/
def OpV (w : World) (L : Nat) (v : Value) (f : Bool → Bool → Bool) (b : Bool) (ts : List Rat) (c : Bool) (us : List Rat) : Prop :=
  ∃ vs, SetV w L v (f b c) vs ∧ (∀ t ∈ vs, t ∈ ts ∨ t ∈ us) ∧ vs.length ≤ ts.length + us.length ∧ ∀ x, x ∉ ts → x ∉ us → evT (f b c) vs x = f (evT b ts x) (evT c us x)
theorem setreach_v {vc vd : Value} {b c : Bool} {ts us : List Rat} {lv : Int} (f : Bool → Bool → Bool) (hf : ∀ x y, decide (lv ≤ ob x + ob y) = f x y) (h1 : TalV w L vc (ob b) (alt (kb b) ts)) (h2 : TalV w L vd (ob c) (alt (kb c) us)) (ht : Asc ts) (hu : Asc us) (hn : ts.length ≤ 4000) (hn' : us.length ≤ 4000) (hL2 : 2 ≤ L) (hL : L ≤ 100000) :
    Calls Tryz.prog 51 #[vc, vd, .int .i64 lv] w fun e w' => ∃ v, e = .returned v ∧ OpV w' L v f b ts c us ∧ Below w.heap.size w w' := by
  obtain ⟨k1, k2, k3, k4, k5⟩ := reach_op ht hu b c lv f hf ((alt (kb b) ts).length + (alt (kb c) us).length) (by rw [alt_len, alt_len]; exact Nat.le_refl _)
  have hb := ob_bd b
  have hc := ob_bd c
  refine (reached_v h1 h2 (by omega) (by omega) (unit_alt _ (kb_unit b) _) (unit_alt _ (kb_unit c) _) (by rw [alt_len, alt_len]; omega) (by omega) hL2 hL).mono ?_
  rintro e w' ⟨v, css, rfl, hown, hall, h3⟩
  refine ⟨v, rfl, ⟨_, ⟨⟨css, hown.read, ?_⟩, k2⟩, k3, k4, k5⟩, h3⟩
  rw [← k1]; exact hall
set_option maxRecDepth 100000 in
set_option maxHeartbeats 4000000 in
theorem sunion_v {va vb : Value} {b c : Bool} {ts us : List Rat} (hA : SetV w L va b ts) (hn : ts.length ≤ 4000) (hB : SetV w L vb c us) (hn' : us.length ≤ 4000) (hL2 : 2 ≤ L) (hL : L ≤ 100000) :
    Calls Tryz.prog 15 #[va, vb] w fun e w' => ∃ v, e = .returned (.tuple #[v, .nilIface]) ∧ OpV w' L v (fun x y => x || y) b ts c us ∧ Below w.heap.size w w' := by
  go_enter Tryz.func15, Tryz.ntmps15
  go_wp2_with fail
  refine (setvalid_v hA hn hL).mono ?_
  rintro e w0 ⟨rfl, hb⟩
  replace hA := hA.below hb
  replace hB := hB.below hb
  have H0 := hb
  clear hb
  go_wp2_with fail
  refine (setvalid_v hB hn' hL).mono ?_
  rintro e w1 ⟨rfl, hb⟩
  replace hA := hA.below hb
  replace hB := hB.below hb
  replace H0 := H0.trans (hb.mono H0.size)
  clear hb
  go_wp2_with fail
  refine (settally_v hA hn).mono ?_
  rintro e w2 ⟨y1, rfl, h1, hb⟩
  replace hA := hA.below hb
  replace hB := hB.below hb
  replace H0 := H0.trans (hb.mono H0.size)
  clear hb
  go_wp2_with fail
  refine (settally_v hB hn').mono ?_
  rintro e w3 ⟨y2, rfl, h2, hb⟩
  replace hA := hA.below hb
  replace hB := hB.below hb
  replace h1 := h1.below hb
  replace H0 := H0.trans (hb.mono H0.size)
  clear hb
  go_wp2_with fail
  refine (setreach_v (fun x y => x || y) (by intro x y; cases x <;> cases y <;> rfl) h1 h2 hA.2 hB.2 hn hn' hL2 hL).mono ?_
  rintro e w4 ⟨v, rfl, h4, hb⟩
  replace hA := hA.below hb
  replace hB := hB.below hb
  replace h1 := h1.below hb
  replace h2 := h2.below hb
  replace H0 := H0.trans (hb.mono H0.size)
  clear hb
  go_wp2_with fail
  go_returns
  exact ⟨_, rfl, h4, H0⟩
set_option maxRecDepth 100000 in
set_option maxHeartbeats 4000000 in
theorem sinter_v {va vb : Value} {b c : Bool} {ts us : List Rat} (hA : SetV w L va b ts) (hn : ts.length ≤ 4000) (hB : SetV w L vb c us) (hn' : us.length ≤ 4000) (hL2 : 2 ≤ L) (hL : L ≤ 100000) :
    Calls Tryz.prog 26 #[va, vb] w fun e w' => ∃ v, e = .returned (.tuple #[v, .nilIface]) ∧ OpV w' L v (fun x y => x && y) b ts c us ∧ Below w.heap.size w w' := by
  go_enter Tryz.func26, Tryz.ntmps26
  go_wp2_with fail
  refine (setvalid_v hA hn hL).mono ?_
  rintro e w0 ⟨rfl, hb⟩
  replace hA := hA.below hb
  replace hB := hB.below hb
  have H0 := hb
  clear hb
  go_wp2_with fail
  refine (setvalid_v hB hn' hL).mono ?_
  rintro e w1 ⟨rfl, hb⟩
  replace hA := hA.below hb
  replace hB := hB.below hb
  replace H0 := H0.trans (hb.mono H0.size)
  clear hb
  go_wp2_with fail
  refine (settally_v hA hn).mono ?_
  rintro e w2 ⟨y1, rfl, h1, hb⟩
  replace hA := hA.below hb
  replace hB := hB.below hb
  replace H0 := H0.trans (hb.mono H0.size)
  clear hb
  go_wp2_with fail
  refine (settally_v hB hn').mono ?_
  rintro e w3 ⟨y2, rfl, h2, hb⟩
  replace hA := hA.below hb
  replace hB := hB.below hb
  replace h1 := h1.below hb
  replace H0 := H0.trans (hb.mono H0.size)
  clear hb
  go_wp2_with fail
  refine (setreach_v (fun x y => x && y) (by intro x y; cases x <;> cases y <;> rfl) h1 h2 hA.2 hB.2 hn hn' hL2 hL).mono ?_
  rintro e w4 ⟨v, rfl, h4, hb⟩
  replace hA := hA.below hb
  replace hB := hB.below hb
  replace h1 := h1.below hb
  replace h2 := h2.below hb
  replace H0 := H0.trans (hb.mono H0.size)
  clear hb
  go_wp2_with fail
  go_returns
  exact ⟨_, rfl, h4, H0⟩
end
end Go.Proofs.YtpgkkkodniiilaaGreatDoor
