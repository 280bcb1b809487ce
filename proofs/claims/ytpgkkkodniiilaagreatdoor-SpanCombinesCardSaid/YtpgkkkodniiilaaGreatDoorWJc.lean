/-
  An insertion sort of ends in memory, and its mathematics.
-/
import Derived.Test.YtpgkkkodniiilaaGreatDoorWOrd
import Derived.Deep.RegionHeld3
import Derived.Test.YtpgkkkodniiilaaGreatDoorWSpN
import Derived.Test.YtpgkkkodniiilaaGreatDoorWJa
import Derived.IntWalk
import Derived.Deep.Cut
namespace Go.Proofs.YtpgkkkodniiilaaGreatDoor
open Go
section
variable {P : Program} {ops : Array Oper} {Q : Exit → Act → World → Prop} {md : Region.Mode} {S : World → Prop} {I : Array Bool → Act → World → Prop}
theorem wp_region_anyd {id : Nat} {a : Act} {w : World} (hm : P.follows .mixedOrders = true) (h : wpAny P .any ops Q ops.size (Array.replicate ops.size false) a w.drew) : (Code.region id ops true).wp P Q a w := wp_region_any hm h
end
end Go.Proofs.YtpgkkkodniiilaaGreatDoor
namespace Go.Proofs.YtpgkkkodniiilaaGreatDoor
open Go.RowKit
theorem sumLt_append (a b : List (Rat × Int)) (x : Rat) : sumLt (a ++ b) x = sumLt a x + sumLt b x := by
  induction a with
  | nil => simp [sumLt]
  | cons e a ih => simp only [List.cons_append, sumLt]; rw [ih]; omega
theorem sumLt_perm {a b : List (Rat × Int)} (h : a.Perm b) (x : Rat) : sumLt a x = sumLt b x := by
  induction h with
  | nil => rfl
  | cons e _ ih => simp only [sumLt]; rw [ih]
  | swap e f l => simp only [sumLt]; omega
  | trans _ _ i j => rw [i, j]
/-- How many spans hold x. -/
def holds (l : List Sp) (x : Rat) : Int := match l with
  | [] => 0
  | s :: l => (if memS s x then 1 else 0) + holds l x
theorem holds_mem (l : List Sp) (x : Rat) : 0 ≤ holds l x ∧ (decide (1 ≤ holds l x) = memL l x) := by
  induction l with
  | nil => exact ⟨Int.le_refl _, rfl⟩
  | cons s l ih =>
    obtain ⟨h1, h2⟩ := ih
    have e : memL (s :: l) x = (memS s x || memL l x) := rfl
    have e9 : holds (s :: l) x = (if memS s x then 1 else 0) + holds l x := rfl
    rw [e, e9, ← h2]
    cases memS s x
    · exact ⟨by simpa using h1, by simp⟩
    · refine ⟨by simp; omega, ?_⟩
      simp; omega
theorem open_sum (l : List Sp) (hok : ∀ s ∈ l, ∀ a b, s.lo = some a → s.hi = some b → a < b) (x : Rat) (hx : ∀ s ∈ l, offS s x) : tOpen l + sumLt (tEnds l) x = holds l x := by
  induction l with
  | nil => rfl
  | cons s l ih =>
    have i := ih (fun t ht => hok t (List.mem_cons_of_mem _ ht)) (fun t ht => hx t (List.mem_cons_of_mem _ ht))
    have e1 : tOpen (s :: l) = (if s.lo = none then 1 else 0) + tOpen l := rfl
    have e2 : tEnds (s :: l) = sEnds s ++ tEnds l := rfl
    have e3 : holds (s :: l) x = (if memS s x then 1 else 0) + holds l x := rfl
    rw [e1, e2, e3, sumLt_append, ← i]
    have o1 := hok s (List.mem_cons_self ..)
    obtain ⟨o2, o3⟩ := hx s (List.mem_cons_self ..)
    obtain ⟨lo, hi⟩ := s
    have key : (if lo = none then (1 : Int) else 0) + sumLt (sEnds ⟨lo, hi⟩) x = if memS ⟨lo, hi⟩ x then 1 else 0 := by
      cases lo with
      | none =>
        cases hi with
        | none => rfl
        | some b =>
          have o3 : b ≠ x := fun h => o3 (by rw [h])
          by_cases h : b < x
          · have h2 : ¬ x < b := by grind
            simp [sEnds, sumLt, memS, h, h2]
          · have h2 : x < b := by grind
            simp [sEnds, sumLt, memS, h, h2]
      | some a =>
        have o2 : a ≠ x := fun h => o2 (by rw [h])
        cases hi with
        | none =>
          by_cases h : a < x <;> simp [sEnds, sumLt, memS, h]
        | some b =>
          have o3 : b ≠ x := fun h => o3 (by rw [h])
          have o4 := o1 a b rfl rfl
          by_cases h : a < x
          · by_cases h2 : b < x
            · have h3 : ¬ x < b := by grind
              simp [sEnds, sumLt, memS, h, h2, h3]
            · have h3 : x < b := by grind
              simp [sEnds, sumLt, memS, h, h2, h3]
          · have h2 : ¬ b < x := by grind
            simp [sEnds, sumLt, memS, h, h2]
    show (if lo = none then (1 : Int) else 0) + tOpen l + (sumLt (sEnds ⟨lo, hi⟩) x + sumLt (tEnds l) x) = _
    rw [← key]; omega
/-- What Join makes of spans in any order. -/
theorem join_sem {l : List Sp} {c : List (Rat × Int)} (hok : ∀ s ∈ l, ∀ a b, s.lo = some a → s.hi = some b → a < b) (hp : c.Perm (tEnds l)) (ha : AscW c) :
    Asc (reachT 1 c.length (tOpen l + 0) c []) ∧ (∀ t ∈ reachT 1 c.length (tOpen l + 0) c [], ∃ e ∈ tEnds l, e.1 = t) ∧ (reachT 1 c.length (tOpen l + 0) c []).length ≤ c.length ∧
    ∀ x, (∀ e ∈ tEnds l, e.1 ≠ x) → (∀ s ∈ l, offS s x) → evT (decide (1 ≤ tOpen l + 0)) (reachT 1 c.length (tOpen l + 0) c []) x = memL l x := by
  obtain ⟨h1, h2, h3, h4⟩ := reach_sem 1 c.length (tOpen l + 0) c [] (by simp) ha trivial
  refine ⟨h1, fun t ht => ?_, by simpa using h3, fun x hx ho => ?_⟩
  · rcases h2 t ht with ⟨e, he, rfl⟩ | ⟨e, he, _⟩
    · exact ⟨e, hp.mem_iff.1 he, rfl⟩
    · cases he
  · rw [h4 x (fun e he => hx e (hp.mem_iff.1 he)) (fun e he => (by cases he)), sumLt_perm hp, ← (holds_mem l x).2, ← open_sum l hok x ho]
    congr 1
    apply propext
    have : sumLt ([] : List (Rat × Int)) x = 0 := rfl
    constructor <;> intro h <;> omega
section
variable {α : Type} {v : α → Rat}
/-- One element sinks to its place. -/
def ins (v : α → Rat) : Nat → List α → List α
  | 0, l => l
  | j + 1, l => match l[j]?, l[j + 1]? with
    | some x, some y => if v y < v x then ins v j ((l.set j y).set (j + 1) x) else l
    | _, _ => l
/-- k rounds, from i on. -/
def srt (v : α → Rat) : Nat → Nat → List α → List α
  | 0, _, l => l
  | k + 1, i, l => srt v k (i + 1) (ins v i l)
theorem ins_succ {l : List α} {j : Nat} {x y : α} (hx : l[j]? = some x) (hy : l[j + 1]? = some y) : ins v (j + 1) l = if v y < v x then ins v j ((l.set j y).set (j + 1) x) else l := by
  show (match l[j]?, l[j + 1]? with | some x, some y => if v y < v x then ins v j ((l.set j y).set (j + 1) x) else l | _, _ => l) = _
  rw [hx, hy]
theorem swap_perm {l : List α} {j : Nat} {x y : α} (hx : l[j]? = some x) (hy : l[j + 1]? = some y) : ((l.set j y).set (j + 1) x).Perm l := by
  obtain ⟨h1, e1⟩ := List.getElem?_eq_some_iff.1 hx
  obtain ⟨h2, e2⟩ := List.getElem?_eq_some_iff.1 hy
  subst e1 e2
  exact List.set_set_perm h1 h2
theorem ins_perm (j : Nat) : ∀ l : List α, (ins v j l).Perm l := by
  induction j with
  | zero => intro l; exact List.Perm.refl _
  | succ j ih =>
    intro l
    unfold ins
    split
    · rename_i x y hx hy
      split
      · exact (ih _).trans (swap_perm hx hy)
      · exact List.Perm.refl _
    · exact List.Perm.refl _
theorem srt_perm (k : Nat) : ∀ (i : Nat) (l : List α), (srt v k i l).Perm l := by
  induction k with
  | zero => intro i l; exact List.Perm.refl _
  | succ k ih => intro i l; exact (ih _ _).trans (ins_perm i l)
/-- Up to n the values ascend. -/
def UpTo (v : α → Rat) (l : List α) (n : Nat) : Prop := ∀ a b x y, a < b → b < n → l[a]? = some x → l[b]? = some y → v x ≤ v y
/-- Up to n the values ascend, but for the one at j, which is not above those behind it. -/
def But (v : α → Rat) (l : List α) (j n : Nat) : Prop := (∀ a b x y, a < b → b < n → a ≠ j → b ≠ j → l[a]? = some x → l[b]? = some y → v x ≤ v y) ∧ ∀ b x y, j < b → b < n → l[j]? = some x → l[b]? = some y → v x ≤ v y
theorem ins_up (j : Nat) : ∀ (l : List α) (n : Nat), j < n → n ≤ l.length → But v l j n → UpTo v (ins v j l) n := by
  induction j with
  | zero =>
    intro l n hj hn h a b x y hab hb hx hy
    by_cases ha : a = 0
    · subst ha; exact h.2 b x y hab hb hx hy
    · exact h.1 a b x y hab hb ha (by omega) hx hy
  | succ j ih =>
    intro l n hj hn h
    have hl : j < l.length := by omega
    have hl1 : j + 1 < l.length := by omega
    have ex : l[j]? = some l[j] := List.getElem?_eq_getElem hl
    have ey : l[j + 1]? = some l[j + 1] := List.getElem?_eq_getElem hl1
    have hins : ins v (j + 1) l = if v l[j + 1] < v l[j] then ins v j ((l.set j l[j + 1]).set (j + 1) l[j]) else l := by
      show (match l[j]?, l[j + 1]? with | some x, some y => _ | _, _ => _) = _
      rw [ex, ey]
    rw [hins]
    by_cases hlt : v l[j + 1] < v l[j]
    · rw [if_pos hlt]
      have get : ∀ k, ((l.set j l[j + 1]).set (j + 1) l[j])[k]? = if k = j + 1 then some l[j] else if k = j then some l[j + 1] else l[k]? := by
        intro k
        rw [List.getElem?_set, List.getElem?_set]
        by_cases h1 : j + 1 = k
        · subst h1; simp [hl1]
        · rw [if_neg h1, if_neg (show ¬ k = j + 1 by omega)]
          by_cases h2 : j = k
          · subst h2; simp [hl]
          · rw [if_neg h2, if_neg (show ¬ k = j by omega)]
      refine ih _ n (by omega) (by simpa using hn) ⟨?_, ?_⟩
      · intro a b x y hab hb ha hb' hx hy
        rw [get] at hx hy
        rw [if_neg ha] at hx
        rw [if_neg hb'] at hy
        by_cases h1 : a = j + 1
        · rw [if_pos h1] at hx
          rw [if_neg (show ¬ b = j + 1 by omega)] at hy
          injection hx with hx; subst hx
          exact h.1 j b _ y (by omega) hb (by omega) (by omega) ex hy
        · rw [if_neg h1] at hx
          by_cases h2 : b = j + 1
          · rw [if_pos h2] at hy
            injection hy with hy; subst hy
            exact h.1 a j x _ (by omega) (by omega) h1 (by omega) hx ex
          · rw [if_neg h2] at hy
            exact h.1 a b x y hab hb h1 h2 hx hy
      · intro b x y hjb hb hx hy
        rw [get] at hx hy
        rw [if_neg (show ¬ j = j + 1 by omega), if_pos rfl] at hx
        injection hx with hx; subst hx
        by_cases h2 : b = j + 1
        · rw [if_pos h2] at hy
          injection hy with hy; subst hy
          grind
        · rw [if_neg h2, if_neg (show ¬ b = j by omega)] at hy
          exact h.2 b _ y (by omega) hb ey hy
    · rw [if_neg hlt]
      intro a b x y hab hb hx hy
      by_cases h1 : a = j + 1
      · subst h1; exact h.2 b x y hab hb hx hy
      · by_cases h2 : b = j + 1
        · subst h2
          rw [ey] at hy; injection hy with hy; subst hy
          by_cases h3 : a = j
          · subst h3; rw [ex] at hx; injection hx with hx; subst hx; grind
          · have := h.1 a j x _ (by omega) (by omega) h1 (by omega) hx ex
            grind
        · exact h.1 a b x y hab hb h1 h2 hx hy
theorem srt_up (k : Nat) : ∀ (i : Nat) (l : List α), i + k ≤ l.length → UpTo v l i → UpTo v (srt v k i l) (i + k) := by
  induction k with
  | zero => intro i l _ h; exact h
  | succ k ih =>
    intro i l hl h
    have h1 := ins_up (v := v) i l (i + 1) (by omega) (by omega) ⟨fun a b x y hab hb ha hb' hx hy => h a b x y hab (by omega) hx hy, fun b x y hjb hb hx hy => by omega⟩
    have h2 := ih (i + 1) (ins v i l) (by rw [(ins_perm i l).length_eq]; omega) h1
    show UpTo v (srt v k (i + 1) (ins v i l)) _
    rw [show i + (k + 1) = i + 1 + k by omega]; exact h2
theorem srt_all (l : List α) : UpTo v (srt v (l.length - 1) 1 l) l.length := by
  rcases Nat.eq_zero_or_pos l.length with h | h
  · intro a b x y hab hb; omega
  · have := srt_up (v := v) (l.length - 1) 1 l (by omega) (fun a b x y hab hb => by omega)
    rwa [show 1 + (l.length - 1) = l.length by omega] at this
end
theorem ascW_of {l : List (Rat × Int)} (h : UpTo (fun e => e.1) l l.length) : AscW l := by
  induction l with
  | nil => trivial
  | cons e l ih =>
    refine ⟨fun f hf => ?_, ih fun a b x y hab hb hx hy => h (a + 1) (b + 1) x y (by omega) (by simp; omega) hx hy⟩
    obtain ⟨i, hi⟩ := List.getElem?_of_mem hf
    have hil := (List.getElem?_eq_some_iff.1 hi).1
    exact h 0 (i + 1) e f (by omega) (by simp; omega) rfl hi
end Go.Proofs.YtpgkkkodniiilaaGreatDoor
namespace Go.Proofs.YtpgkkkodniiilaaGreatDoor
open Go.RowKit

section
variable {f0 h0 f1 h1 f2 h2 f3 h3 f4 h4 f5 h5 f6 h6 f7 h7 f8 h8 f9 h9 f10 h10 f11 h11 : Bool} {A0 A1 A2 A3 A4 A5 A6 A7 A8 A9 A10 A11 A12 A13 A14 A15 A16 A17 A18 A19 A20 A21 A22 A23 D0 D1 D2 D3 D4 D5 D6 D7 D8 D9 D10 D11 D12 D13 D14 D15 D16 D17 D18 D19 D20 D21 D22 D23 : Option Addr} {n0 n1 n2 n3 n4 n5 n6 n7 n8 n9 n10 n11 n12 n13 n14 n15 n16 n17 n18 n19 n20 n21 n22 n23 c0 c1 c2 c3 c4 c5 c6 c7 c8 c9 c10 c11 c12 c13 c14 c15 c16 c17 c18 c19 c20 c21 c22 c23 m0 m1 m2 m3 m4 m5 m6 m7 m8 m9 m10 m11 m12 m13 m14 m15 m16 m17 m18 m19 m20 m21 m22 m23 e0 e1 e2 e3 e4 e5 e6 e7 e8 e9 e10 e11 e12 e13 e14 e15 e16 e17 e18 e19 e20 e21 e22 e23 : Nat} {s0 s1 s2 s3 s4 s5 s6 s7 s8 s9 s10 s11 s12 s13 s14 s15 s16 s17 s18 s19 s20 s21 s22 s23 : Bool} {q0 q1 q2 q3 q4 q5 q6 q7 : Rat} {z0 z1 z2 z3 z4 z5 z6 z7 z8 z9 z10 z11 : Int} {L L0 L1 x y : Nat} {k : Int} {b : Bool} {w : World}
variable {o0 o1 o2 o3 : Option Rat} {l l' : List Sp}
/-- The numbers of a list of ends. -/
def Fct (w : World) (L : Nat) (ps : List (E4 × Rat)) : Prop := ∀ p ∈ ps, NQ w p.1.s (.slice p.1.A p.1.n p.1.c) (.slice p.1.D p.1.m p.1.e) p.2 L
theorem firm_fct (L : Nat) (ps : List (E4 × Rat)) : Firm fun w => Fct w L ps :=
  ⟨fun h hb p hp => (h p hp).below hb, fun h hx hc hg p hp => (h p hp).kept hx hc hg⟩
theorem Fct.below {w' : World} {ps : List (E4 × Rat)} (h : Fct w L ps) (hb : Below w.heap.size w w') : Fct w' L ps := (firm_fct L ps).below h hb
theorem Fct.perm {ps qs : List (E4 × Rat)} (h : Fct w L ps) (hp : qs.Perm ps) : Fct w L qs := fun p hm => h p (hp.mem_iff.1 hm)
/-- Below a block nothing has turned. -/
def BelB (B : Nat) (a w : World) : Prop := Below B a w ∧ B ≤ w.heap.size
theorem BelB.below {B : Nat} {a w w' : World} (h : BelB B a w) (hb : Below w.heap.size w w') : BelB B a w' := ⟨h.1.trans (hb.mono h.2), Nat.le_trans h.2 hb.size⟩
/-- The rows of a list of ends. -/
def rowsOf (ps : List (E4 × Rat)) : List (List Value) := ps.map fun p => p.1.cells
theorem flatten_set {k q : Nat} {u : Value} : ∀ (css : List (List Value)) (i : Nat) (cs : List Value), (∀ x ∈ css, x.length = k) → css[i]? = some cs → q < k → (css.set i (cs.set q u)).flatten = css.flatten.set (i * k + q) u := by
  intro css
  induction css with
  | nil => intro i cs _ hi _; cases hi
  | cons a css ih =>
    intro i cs hk hi hq
    have ha := hk a (List.mem_cons_self ..)
    cases i with
    | zero =>
      injection hi with hi; subst hi
      show (a.set q u ++ css.flatten) = (a ++ css.flatten).set (0 * k + q) u
      rw [Nat.zero_mul, Nat.zero_add, List.set_append_left _ _ (by omega)]
    | succ i =>
      show a ++ (css.set i (cs.set q u)).flatten = (a ++ css.flatten).set ((i + 1) * k + q) u
      have hm : (i + 1) * k = i * k + k := Nat.succ_mul i k
      rw [ih i cs (fun x hx => hk x (List.mem_cons_of_mem _ hx)) hi hq, List.set_append_right _ _ (by omega)]
      congr 2
      omega
theorem OwnE.setAt {w : World} {g m c i q k B : Nat} {e : TypeId} {css : List (List Value)} {cs : List Value} {u : Value} (h : OwnE w B e k (.slice (some ⟨g, 0, none⟩) m c) css) (hi : css[i]? = some cs) (hq : q < k) (hu : notInt u = true) : OwnE (w.setCell ⟨g, i * k + q, none⟩ u) B e k (.slice (some ⟨g, 0, none⟩) m c) (css.set i (cs.set q u)) := by
  have hk := h.1 cs (List.mem_of_getElem? hi)
  obtain rfl : m = css.length := by obtain ⟨_, _, e9, _, _⟩ := h.form; injection e9
  refine ⟨fun x hx => ?_, ?_, fun g' hg' => ?_⟩
  · rcases List.mem_or_eq_of_mem_set hx with hx | hx
    · exact h.1 x hx
    · subst hx; rw [List.length_set]; exact hk
  · have h2 := h.2.1.stored (i * k + q) u
    rw [List.length_set, flatten_set css i cs h.1 hi hq]; exact h2.1
  · injection hg' with hg'
    subst hg'
    obtain ⟨cur, e', hb, hc⟩ := h.2.2 g rfl
    refine ⟨_, e', hb.step _ u, ?_⟩
    rw [Array.all_eq_true_iff_forall_mem] at hc ⊢
    intro x hx
    rcases Array.mem_or_eq_of_mem_setIfInBounds hx with hx | rfl
    · exact hc x hx
    · exact hu
theorem OwnE.setRow {w : World} {g m c i B : Nat} {e : TypeId} {css : List (List Value)} {a0 a1 a2 a3 b0 b1 b2 b3 : Value} (h : OwnE w B e 4 (.slice (some ⟨g, 0, none⟩) m c) css) (hi : css[i]? = some [a0, a1, a2, a3]) (h0 : notInt b0 = true) (h1 : notInt b1 = true) (h2 : notInt b2 = true) (h3 : notInt b3 = true) :
    OwnE ((((w.setCell ⟨g, i * 4, none⟩ b0).setCell ⟨g, i * 4 + 1, none⟩ b1).setCell ⟨g, i * 4 + 2, none⟩ b2).setCell ⟨g, i * 4 + 3, none⟩ b3) B e 4 (.slice (some ⟨g, 0, none⟩) m c) (css.set i [b0, b1, b2, b3]) := by
  have hl := (List.getElem?_eq_some_iff.1 hi).1
  have k0 := h.setAt (q := 0) hi (by decide) h0
  have k1 := k0.setAt (i := i) (q := 1) (cs := [b0, a1, a2, a3]) (by rw [List.getElem?_set_self hl]; rfl) (by decide) h1
  rw [List.set_set] at k1
  have k2 := k1.setAt (i := i) (q := 2) (cs := [b0, b1, a2, a3]) (by rw [List.getElem?_set_self hl]; rfl) (by decide) h2
  rw [List.set_set] at k2
  have k3 := k2.setAt (i := i) (q := 3) (cs := [b0, b1, b2, a3]) (by rw [List.getElem?_set_self hl]; rfl) (by decide) h3
  rw [List.set_set] at k3
  exact k3
theorem OwnE.clear4 {w : World} {g m c B : Nat} {e : TypeId} {css : List (List Value)} (h : OwnE w B e 4 (.slice (some ⟨g, 0, none⟩) m c) css) : ∀ j, w.frozen? ⟨g, j, none⟩ = false := by
  obtain ⟨cur, e', hb, _⟩ := h.2.2 g rfl
  exact fun j => Box.frozen hb j
theorem OwnE.addr {w : World} {A : Option Addr} {n c B k : Nat} {e : TypeId} {css : List (List Value)} (h : OwnE w B e k (.slice A n c) css) (hn : css ≠ []) : ∃ g, A = some ⟨g, 0, none⟩ ∧ B ≤ g := by
  rcases h.2.1.2 with ⟨h1, h2⟩ | ⟨g, cap, cur, h1, h2, _⟩
  · exact absurd (List.eq_nil_of_length_eq_zero h2) hn
  · injection h1 with h1 _ _
    exact ⟨g, h1, h2⟩
theorem rowsOf_get {ps : List (E4 × Rat)} {i : Nat} {p : E4 × Rat} (h : ps[i]? = some p) : (rowsOf ps)[i]? = some [.bool p.1.s, .slice p.1.A p.1.n p.1.c, .slice p.1.D p.1.m p.1.e, .int .i64 p.1.k] := by
  unfold rowsOf; rw [List.getElem?_map, h]; rfl
theorem rowsOf_set (ps : List (E4 × Rat)) (i : Nat) (p : E4 × Rat) : rowsOf (ps.set i p) = (rowsOf ps).set i [.bool p.1.s, .slice p.1.A p.1.n p.1.c, .slice p.1.D p.1.m p.1.e, .int .i64 p.1.k] := by
  unfold rowsOf; rw [List.map_set]; rfl
theorem rowsOf_map (ps : List (E4 × Rat)) : rowsOf ps = (ps.map (·.1)).map E4.cells := by
  unfold rowsOf; rw [List.map_map]; rfl
/-- Two neighbours change places. -/
theorem own_swap {w : World} {g m c B j : Nat} {e : TypeId} {ps : List (E4 × Rat)} {x y : E4 × Rat} (h : OwnE w B e 4 (.slice (some ⟨g, 0, none⟩) m c) (rowsOf ps)) (hx : ps[j]? = some x) (hy : ps[j + 1]? = some y) :
    OwnE (((((((((w.setCell ⟨g, (j + 1) * 4, none⟩ (.bool x.1.s)).setCell ⟨g, (j + 1) * 4 + 1, none⟩ (.slice x.1.A x.1.n x.1.c)).setCell ⟨g, (j + 1) * 4 + 2, none⟩ (.slice x.1.D x.1.m x.1.e)).setCell ⟨g, (j + 1) * 4 + 3, none⟩ (.int .i64 x.1.k)).setCell ⟨g, j * 4, none⟩ (.bool y.1.s)).setCell ⟨g, j * 4 + 1, none⟩ (.slice y.1.A y.1.n y.1.c)).setCell ⟨g, j * 4 + 2, none⟩ (.slice y.1.D y.1.m y.1.e)).setCell ⟨g, j * 4 + 3, none⟩ (.int .i64 y.1.k))) B e 4 (.slice (some ⟨g, 0, none⟩) m c) (rowsOf ((ps.set j y).set (j + 1) x)) := by
  have k1 := h.setRow (rowsOf_get hy) (b0 := (.bool x.1.s)) (b1 := (.slice x.1.A x.1.n x.1.c)) (b2 := (.slice x.1.D x.1.m x.1.e)) (b3 := (.int .i64 x.1.k)) rfl rfl rfl rfl
  have hx' : ((rowsOf ps).set (j + 1) [.bool x.1.s, .slice x.1.A x.1.n x.1.c, .slice x.1.D x.1.m x.1.e, .int .i64 x.1.k])[j]? = some [.bool x.1.s, .slice x.1.A x.1.n x.1.c, .slice x.1.D x.1.m x.1.e, .int .i64 x.1.k] := by rw [List.getElem?_set_ne (by omega)]; exact rowsOf_get hx
  have k2 := k1.setRow hx' (b0 := (.bool y.1.s)) (b1 := (.slice y.1.A y.1.n y.1.c)) (b2 := (.slice y.1.D y.1.m y.1.e)) (b3 := (.int .i64 y.1.k)) rfl rfl rfl rfl
  have e9 : rowsOf ((ps.set j y).set (j + 1) x) = ((rowsOf ps).set (j + 1) [.bool x.1.s, .slice x.1.A x.1.n x.1.c, .slice x.1.D x.1.m x.1.e, .int .i64 x.1.k]).set j [.bool y.1.s, .slice y.1.A y.1.n y.1.c, .slice y.1.D y.1.m y.1.e, .int .i64 y.1.k] := by
    rw [rowsOf_set, rowsOf_set, List.set_comm _ _ (by omega)]
  rw [e9]; exact k2
set_option maxRecDepth 100000 in
set_option maxHeartbeats 4000000 in
theorem isort_v {B n c : Nat} {A : Option Addr} {ps : List (E4 × Rat)} (hO : OwnE w B 133 4 (.slice A n c) (rowsOf ps)) (hF : Fct w L ps) (hn : n ≤ 10000) (hB : B ≤ w.heap.size) (hL : L ≤ 100000) :
    Calls Tryz.prog 166 #[.slice A n c, .int .i64 0, .int .i64 (n : Int), .func (.func 102) #[] #[]] w fun e w' => e = .returned (.tuple #[]) ∧ (OwnE w' B 133 4 (.slice A n c) (rowsOf (srt (fun p => p.2) (n - 1) 1 ps)) ∧ Fct w' L (srt (fun p => p.2) (n - 1) 1 ps)) ∧ Below B w w' := by
  have hlen : ps.length = n := by have h1 := hO.form; obtain ⟨A', c', h2, _, _⟩ := h1; injection h2 with _ h3 _; rw [h3]; simp [rowsOf]
  obtain ⟨n9, hn9⟩ : ∃ k, k = n := ⟨_, rfl⟩
  have HP : Hid (ps.length = n) := Lib.hid hlen
  clear hn9 n9
  go_enter Tryz.func166, Tryz.ntmps166
  go_wp2_with fail
  go_loopw [8] (fun t8 wr => ∃ (i : Nat) (cur : List (E4 × Rat)), t8 = .int .i64 ((i : Int) + 1) ∧ i ≤ n ∧ cur.length = n ∧ OwnE wr B 133 4 (.slice A n c) (rowsOf cur) ∧ Fct wr L cur ∧ srt (fun p => p.2) (n - 1 - i) (i + 1) cur = srt (fun p => p.2) (n - 1) 1 ps ∧ BelB B w wr) (fun t8 _ => n + 1 - (intOf t8).toNat)
  case atStart => exact ⟨0, ps, rfl, Nat.zero_le _, hlen, hO, hF, rfl, Below.refl _ _, hB⟩
  case round =>
    clear hO hF hlen
    obtain ⟨i, cur, rfl, hi, hcl, hO, hFc, htg, K0⟩ := hrel
    have HTG := Lib.hid htg
    have HCL := Lib.hid hcl
    clear htg hcl
    by_cases hlt : i + 1 < n
    · have hd : decide ((i : Int) + 1 < (n : Int)) = true := decide_eq_true (by omega)
      go_wp2_with fail
      go_loopw [9] (fun t9 wx => ∃ (j : Nat) (cu : List (E4 × Rat)), t9 = .int .i64 (j : Int) ∧ j ≤ i + 1 ∧ cu.length = n ∧ OwnE wx B 133 4 (.slice A n c) (rowsOf cu) ∧ Fct wx L cu ∧ ins (fun p => p.2) j cu = ins (fun p => p.2) (i + 1) cur ∧ BelB B w wx) (fun t9 _ => (intOf t9).toNat)
      case atStart => exact ⟨i + 1, cur, by go_num, Nat.le_refl _, HCL.out, hO, hFc, rfl, K0⟩
      case round =>
        clear hO hFc K0
        obtain ⟨j, cu, rfl, hj, hcl, hO, hFc, htg, K0⟩ := hrel
        have HTJ := Lib.hid htg
        have HCJ := Lib.hid hcl
        clear htg hcl
        obtain ⟨wx, hwx⟩ : ∃ W, W = wr := ⟨_, rfl⟩
        subst hwx
        rcases j with _ | j
        · simp only [show ((0 : Nat) : Int) = 0 from rfl]
          have hd0 : decide ((0 : Int) < 0) = false := rfl
          go_wp2_with fail
          have hD := drawn_below wx
          replace hO := hO.below hD
          replace hFc := hFc.below hD
          replace K0 := K0.below hD
          have H0 := hD
          clear hD
          refine wp_region_noPanic ?_
          refine wp_region_held_drew (S := (fun _ => True)) (by kernel_rfl) trivial (fun hHeld => ?_)
          generalize wx.drew = v300 at H0 hHeld hO hFc K0 ⊢
          refine wpAnyH_take (i := 0) (v := ?_) rfl (by kernel_rfl) (by kernel_rfl) (by kernel_rfl) (fun _ _ _ h => h) (Or.inl ⟨by rfl, ?_⟩) (by assumption) ?_
          rotate_left
          · (intro w hSw; (try dsimp only at hSw); go_simp; (try with_reducible rfl))
          (try simp only [List.getElem_toArray, List.getElem_cons_zero, Act.put, List.setIfInBounds_toArray, List.set_cons_zero, List.set_cons_succ])
          refine wpAnyH_take (i := 1) (v := ?_) rfl (by kernel_rfl) (by kernel_rfl) (by kernel_rfl) (fun _ _ _ h => h) (Or.inl ⟨by rfl, ?_⟩) (by assumption) ?_
          rotate_left
          · (intro w hSw; (try dsimp only at hSw); go_simp; (try with_reducible rfl))
          (try simp only [List.getElem_toArray, List.getElem_cons_succ, List.getElem_cons_zero, Act.put, List.setIfInBounds_toArray, List.set_cons_zero, List.set_cons_succ])
          refine wpAnyH_take (i := 2) (v := ?_) rfl (by kernel_rfl) (by kernel_rfl) (by kernel_rfl) (fun _ _ _ h => h) (Or.inl ⟨by rfl, ?_⟩) (by assumption) ?_
          rotate_left
          · (intro w hSw; (try dsimp only at hSw); go_simp; (try with_reducible rfl))
          (try simp only [List.getElem_toArray, List.getElem_cons_succ, List.getElem_cons_zero, Act.put, List.setIfInBounds_toArray, List.set_cons_zero, List.set_cons_succ])
          refine wpAnyH_take (i := 3) (v := ?_) rfl (by kernel_rfl) (by kernel_rfl) (by kernel_rfl) (fun _ _ _ h => h) (Or.inl ⟨by rfl, ?_⟩) (by assumption) ?_
          rotate_left
          · (intro w hSw; (try dsimp only at hSw); go_simp; (try with_reducible rfl))
          (try simp only [List.getElem_toArray, List.getElem_cons_succ, List.getElem_cons_zero, Act.put, List.setIfInBounds_toArray, List.set_cons_zero, List.set_cons_succ])
          refine wpAnyH_take (i := 4) (v := undef) rfl (by kernel_rfl) (by kernel_rfl) (by kernel_rfl) (fun _ _ _ h => h) (Or.inr ⟨by rfl, rfl⟩) (by assumption) ?_
          (try simp only [List.getElem_toArray, List.getElem_cons_succ, List.getElem_cons_zero, Act.put, List.setIfInBounds_toArray, List.set_cons_zero, List.set_cons_succ])
          refine wpAnyH_take (i := 5) (v := undef) rfl (by kernel_rfl) (by kernel_rfl) (by kernel_rfl) (fun _ _ _ h => h) (Or.inr ⟨by rfl, rfl⟩) (by assumption) ?_
          (try simp only [List.getElem_toArray, List.getElem_cons_succ, List.getElem_cons_zero, Act.put, List.setIfInBounds_toArray, List.set_cons_zero, List.set_cons_succ])
          refine wpAnyH_take (i := 6) (v := undef) rfl (by kernel_rfl) (by kernel_rfl) (by kernel_rfl) (fun _ _ _ h => h) (Or.inr ⟨by rfl, rfl⟩) (by assumption) ?_
          (try simp only [List.getElem_toArray, List.getElem_cons_succ, List.getElem_cons_zero, Act.put, List.setIfInBounds_toArray, List.set_cons_zero, List.set_cons_succ])
          refine wpAnyH_take (i := 9) (v := undef) rfl (by kernel_rfl) (by kernel_rfl) (by kernel_rfl) (fun _ _ _ h => h) (Or.inr ⟨by rfl, rfl⟩) (by assumption) ?_
          (try simp only [List.getElem_toArray, List.getElem_cons_succ, List.getElem_cons_zero, Act.put, List.setIfInBounds_toArray, List.set_cons_zero, List.set_cons_succ])
          refine wpAnyH_take (i := 10) (v := undef) rfl (by kernel_rfl) (by kernel_rfl) (by kernel_rfl) (fun _ _ _ h => h) (Or.inr ⟨by rfl, rfl⟩) (by assumption) ?_
          (try simp only [List.getElem_toArray, List.getElem_cons_succ, List.getElem_cons_zero, Act.put, List.setIfInBounds_toArray, List.set_cons_zero, List.set_cons_succ])
          refine wpAnyH_take (i := 7) (v := undef) rfl (by kernel_rfl) (by kernel_rfl) (by kernel_rfl) (fun _ _ _ h => h) (Or.inr ⟨by rfl, rfl⟩) (by assumption) ?_
          (try simp only [List.getElem_toArray, List.getElem_cons_succ, List.getElem_cons_zero, Act.put, List.setIfInBounds_toArray, List.set_cons_zero, List.set_cons_succ])
          refine wpAnyH_take (i := 11) (v := undef) rfl (by kernel_rfl) (by kernel_rfl) (by kernel_rfl) (fun _ _ _ h => h) (Or.inr ⟨by rfl, rfl⟩) (by assumption) ?_
          (try simp only [List.getElem_toArray, List.getElem_cons_succ, List.getElem_cons_zero, Act.put, List.setIfInBounds_toArray, List.set_cons_zero, List.set_cons_succ])
          refine wpAnyH_take (i := 8) (v := undef) rfl (by kernel_rfl) (by kernel_rfl) (by kernel_rfl) (fun _ _ _ h => h) (Or.inr ⟨by rfl, rfl⟩) (by assumption) ?_
          (try simp only [List.getElem_toArray, List.getElem_cons_succ, List.getElem_cons_zero, Act.put, List.setIfInBounds_toArray, List.set_cons_zero, List.set_cons_succ])
          refine wpAnyH_take (i := 12) (v := undef) rfl (by kernel_rfl) (by kernel_rfl) (by kernel_rfl) (fun _ _ _ h => h) (Or.inr ⟨by rfl, rfl⟩) (by assumption) ?_
          (try simp only [List.getElem_toArray, List.getElem_cons_succ, List.getElem_cons_zero, Act.put, List.setIfInBounds_toArray, List.set_cons_zero, List.set_cons_succ])
          refine wpAnyH_take (i := 13) (v := undef) rfl (by kernel_rfl) (by kernel_rfl) (by kernel_rfl) (fun _ _ _ h => h) (Or.inr ⟨by rfl, rfl⟩) (by assumption) ?_
          (try simp only [List.getElem_toArray, List.getElem_cons_succ, List.getElem_cons_zero, Act.put, List.setIfInBounds_toArray, List.set_cons_zero, List.set_cons_succ])
          refine wpAnyH_take (i := 14) (v := undef) rfl (by kernel_rfl) (by kernel_rfl) (by kernel_rfl) (fun _ _ _ h => h) (Or.inr ⟨by rfl, rfl⟩) (by assumption) ?_
          (try simp only [List.getElem_toArray, List.getElem_cons_succ, List.getElem_cons_zero, Act.put, List.setIfInBounds_toArray, List.set_cons_zero, List.set_cons_succ])
          refine wpAnyH_take (i := 15) (v := undef) rfl (by kernel_rfl) (by kernel_rfl) (by kernel_rfl) (fun _ _ _ h => h) (Or.inr ⟨by rfl, rfl⟩) (by assumption) ?_
          (try simp only [List.getElem_toArray, List.getElem_cons_succ, List.getElem_cons_zero, Act.put, List.setIfInBounds_toArray, List.set_cons_zero, List.set_cons_succ])
          refine wpAnyH_take (i := 16) (v := ?_) rfl (by kernel_rfl) (by kernel_rfl) (by kernel_rfl) (fun _ _ _ h => h) (Or.inl ⟨by rfl, ?_⟩) (by assumption) ?_
          rotate_left
          · (intro w hSw; (try dsimp only at hSw); go_simp; (try with_reducible rfl))
          (try simp only [List.getElem_toArray, List.getElem_cons_succ, List.getElem_cons_zero, Act.put, List.setIfInBounds_toArray, List.set_cons_zero, List.set_cons_succ])
          refine wpAnyH_done (by kernel_rfl) ?_ _
          refine NoPanic.normal ?_
          have hw3 : IntKind.i64.wrap ((i : Int) + 1) = (i : Int) + 1 := IntWalk.i64_in _ (by omega)
          go_wp2_with fail
          go_roundw
          case rel => exact ⟨i + 1, cu, by go_num, by omega, HCJ.out, hO, hFc, by have h1 := HTG.out; have h2 := HTJ.out; rw [← h1, show n - 1 - i = (n - 1 - (i + 1)) + 1 by omega]; show _ = srt _ _ _ (ins _ _ _); rw [← h2]; rfl, K0⟩
          case measure => simp [intOf]; omega
        · have hj9 : ((j + 1 : Nat) : Int) = (j : Int) + 1 := by omega
          rw [hj9]
          obtain ⟨x, hx⟩ : ∃ s, cu[j]? = some s := ⟨_, List.getElem?_eq_getElem (by rw [HCJ.out]; omega)⟩
          obtain ⟨y, hy⟩ : ∃ s, cu[j + 1]? = some s := ⟨_, List.getElem?_eq_getElem (by rw [HCJ.out]; omega)⟩
          obtain ⟨g, hA, hBg⟩ := hO.addr (by intro h9; have h8 := rowsOf_get hx; rw [h9] at h8; cases h8)
          subst hA
          have hre := hO.read
          rw [rowsOf_map] at hre
          obtain ⟨g1, o1, e1, cc0, cc1, cc2, cc3⟩ := e4_elem (x := x.1) (i := j) hre (by rw [List.getElem?_map, hx]; rfl)
          injection e1 with e1
          injection e1 with q1_ q2_
          subst q1_ q2_
          obtain ⟨g1, o1, e1, dd0, dd1, dd2, dd3⟩ := e4_elem (x := y.1) (i := j + 1) hre (by rw [List.getElem?_map, hy]; rfl)
          injection e1 with e1
          injection e1 with q1_ q2_
          subst q1_ q2_
          rw [Nat.zero_add] at cc0 cc1 cc2 cc3 dd0 dd1 dd2 dd3
          have k0 := hFc x (List.mem_of_getElem? hx)
          have k1 := hFc y (List.mem_of_getElem? hy)
          have HX := Lib.hid hx
          have HY := Lib.hid hy
          clear hx hy hre hj9
          have p0 : CellF wx _ _ := cc0
          have p1 : CellF wx _ _ := cc1
          have p2 : CellF wx _ _ := cc2
          have p3 : CellF wx _ _ := cc3
          have r0 : CellF wx _ _ := dd0
          have r1 : CellF wx _ _ := dd1
          have r2 : CellF wx _ _ := dd2
          have r3 : CellF wx _ _ := dd3
          clear cc0 dd0 cc1 dd1 cc2 dd2 cc3 dd3
          have hw1 : IntKind.i64.wrap (j : Int) = j := IntWalk.i64_in _ (by omega)
          have hw2 : ((j : Int) + 1).toNat = j + 1 := by omega
          have hd0 : decide ((0 : Int) < (j : Int) + 1) = true := decide_eq_true (by omega)
          have hb0 : j < n := by omega
          have hb1 : (0 : Int) ≤ (j : Int) + 1 := by omega
          have hb2 : (j : Int) + 1 < (n : Int) := by omega
          have hw4 : IntKind.i64.wrap ((i : Int) + 1) = (i : Int) + 1 := IntWalk.i64_in _ (by omega)
          have hb3 : j + 1 < n := by omega
          rcases rsg_tri y.2 x.2 with ⟨hs, hl9⟩ | ⟨hs, hl9⟩ | ⟨hs, hl9⟩
          · have HS := Lib.hid hs
            have HL9 := Lib.hid hl9
            clear hs hl9
            go_wp2_with fail
            have hD := drawn_below wx
            replace hO := hO.below hD
            replace hFc := hFc.below hD
            replace K0 := K0.below hD
            replace k0 := k0.below hD
            replace k1 := k1.below hD
            replace p0 := p0.below hD
            replace p1 := p1.below hD
            replace p2 := p2.below hD
            replace p3 := p3.below hD
            replace r0 := r0.below hD
            replace r1 := r1.below hD
            replace r2 := r2.below hD
            replace r3 := r3.below hD
            have H0 := hD
            clear hD
            refine wp_region_noPanic ?_
            refine wp_region_held_drew (S := (fun V => V.cell? ⟨g, (j + 1) * 4, none⟩ = some (.bool y.1.s) ∧ V.cell? ⟨g, (j + 1) * 4 + 1, none⟩ = some (.slice y.1.A y.1.n y.1.c) ∧ V.cell? ⟨g, (j + 1) * 4 + 2, none⟩ = some (.slice y.1.D y.1.m y.1.e) ∧ V.cell? ⟨g, (j + 1) * 4 + 3, none⟩ = some (.int .i64 y.1.k) ∧ V.cell? ⟨g, j * 4, none⟩ = some (.bool x.1.s) ∧ V.cell? ⟨g, j * 4 + 1, none⟩ = some (.slice x.1.A x.1.n x.1.c) ∧ V.cell? ⟨g, j * 4 + 2, none⟩ = some (.slice x.1.D x.1.m x.1.e) ∧ V.cell? ⟨g, j * 4 + 3, none⟩ = some (.int .i64 x.1.k))) (by kernel_rfl) ⟨r0.eq, r1.eq, r2.eq, r3.eq, p0.eq, p1.eq, p2.eq, p3.eq⟩ (fun hHeld => ?_)
            generalize wx.drew = v300 at H0 hHeld hO hFc K0 k0 k1 p0 p1 p2 p3 r0 r1 r2 r3 ⊢
            refine wpAnyH_take (i := 0) (v := ?_) rfl (by kernel_rfl) (by kernel_rfl) (by kernel_rfl) (fun _ _ _ h => h) (Or.inl ⟨by rfl, ?_⟩) (by assumption) ?_
            rotate_left
            · (intro w hSw; (try dsimp only at hSw); go_simp; (try with_reducible rfl))
            (try simp only [List.getElem_toArray, List.getElem_cons_zero, Act.put, List.setIfInBounds_toArray, List.set_cons_zero, List.set_cons_succ])
            refine wpAnyH_take (i := 1) (v := ?_) rfl (by kernel_rfl) (by kernel_rfl) (by kernel_rfl) (fun _ _ _ h => h) (Or.inl ⟨by rfl, ?_⟩) (by assumption) ?_
            rotate_left
            · (intro w hSw; (try dsimp only at hSw); go_simp; (try with_reducible rfl))
            (try simp only [List.getElem_toArray, List.getElem_cons_succ, List.getElem_cons_zero, Act.put, List.setIfInBounds_toArray, List.set_cons_zero, List.set_cons_succ])
            refine wpAnyH_take (i := 2) (v := ?_) rfl (by kernel_rfl) (by kernel_rfl) (by kernel_rfl) (fun _ _ _ h => h) (Or.inl ⟨by rfl, ?_⟩) (by assumption) ?_
            rotate_left
            · (intro w hSw; (try dsimp only at hSw); go_simp; (try with_reducible rfl))
            (try simp only [List.getElem_toArray, List.getElem_cons_succ, List.getElem_cons_zero, Act.put, List.setIfInBounds_toArray, List.set_cons_zero, List.set_cons_succ])
            refine wpAnyH_take (i := 3) (v := ?_) rfl (by kernel_rfl) (by kernel_rfl) (by kernel_rfl) (fun _ _ _ h => h) (Or.inl ⟨by rfl, ?_⟩) (by assumption) ?_
            rotate_left
            · (intro w hSw; (try dsimp only at hSw); go_simp; (try with_reducible rfl))
            (try simp only [List.getElem_toArray, List.getElem_cons_succ, List.getElem_cons_zero, Act.put, List.setIfInBounds_toArray, List.set_cons_zero, List.set_cons_succ])
            refine wpAnyH_take (i := 4) (v := ?_) rfl (by kernel_rfl) (by kernel_rfl) (by kernel_rfl) (fun _ _ _ h => h) (Or.inl ⟨by rfl, ?_⟩) (by assumption) ?_
            rotate_left
            · (intro w hSw; (try dsimp only at hSw); go_simp; (try with_reducible rfl))
            (try simp only [List.getElem_toArray, List.getElem_cons_succ, List.getElem_cons_zero, Act.put, List.setIfInBounds_toArray, List.set_cons_zero, List.set_cons_succ])
            refine wpAnyH_take (i := 5) (v := ?_) rfl (by kernel_rfl) (by kernel_rfl) (by kernel_rfl) (fun _ _ _ h => h) (Or.inl ⟨by rfl, ?_⟩) (by assumption) ?_
            rotate_left
            · (intro w hSw; (try dsimp only at hSw); go_simp; (try with_reducible rfl))
            (try simp only [List.getElem_toArray, List.getElem_cons_succ, List.getElem_cons_zero, Act.put, List.setIfInBounds_toArray, List.set_cons_zero, List.set_cons_succ])
            refine wpAnyH_take (i := 6) (v := ?_) rfl (by kernel_rfl) (by kernel_rfl) (by kernel_rfl) (fun _ _ _ h => h) (Or.inl ⟨by rfl, ?_⟩) (by assumption) ?_
            rotate_left
            · (intro w hSw; (try dsimp only at hSw); go_simp; (try with_reducible rfl))
            (try simp only [List.getElem_toArray, List.getElem_cons_succ, List.getElem_cons_zero, Act.put, List.setIfInBounds_toArray, List.set_cons_zero, List.set_cons_succ])
            refine wpAnyH_take (i := 9) (v := ?_) rfl (by kernel_rfl) (by kernel_rfl) (by kernel_rfl) (fun _ _ _ h => h) (Or.inl ⟨by rfl, ?_⟩) (by assumption) ?_
            rotate_left
            · (intro w hSw; (try dsimp only at hSw); go_simp; (try with_reducible rfl))
            (try simp only [List.getElem_toArray, List.getElem_cons_succ, List.getElem_cons_zero, Act.put, List.setIfInBounds_toArray, List.set_cons_zero, List.set_cons_succ])
            refine wpAnyH_take (i := 10) (v := ?_) rfl (by kernel_rfl) (by kernel_rfl) (by kernel_rfl) (fun _ _ _ h => h) (Or.inl ⟨by rfl, ?_⟩) (by assumption) ?_
            rotate_left
            · (intro w hSw; (try dsimp only at hSw); go_simp; (try with_reducible rfl))
            (try simp only [List.getElem_toArray, List.getElem_cons_succ, List.getElem_cons_zero, Act.put, List.setIfInBounds_toArray, List.set_cons_zero, List.set_cons_succ])
            refine wpAnyH_take (i := 7) (v := ?_) rfl (by kernel_rfl) (by kernel_rfl) (by kernel_rfl) (fun _ _ _ h => h) (Or.inl ⟨by rfl, ?_⟩) (by assumption) ?_
            rotate_left
            · (intro w hSw; (try dsimp only at hSw); go_simp; (try with_reducible rfl))
            (try simp only [List.getElem_toArray, List.getElem_cons_succ, List.getElem_cons_zero, Act.put, List.setIfInBounds_toArray, List.set_cons_zero, List.set_cons_succ])
            refine wpAnyH_take (i := 11) (v := ?_) rfl (by kernel_rfl) (by kernel_rfl) (by kernel_rfl) (fun _ _ _ h => h) (Or.inl ⟨by rfl, ?_⟩) (by assumption) ?_
            rotate_left
            · (intro w hSw; (try dsimp only at hSw); go_simp; (try with_reducible rfl))
            (try simp only [List.getElem_toArray, List.getElem_cons_succ, List.getElem_cons_zero, Act.put, List.setIfInBounds_toArray, List.set_cons_zero, List.set_cons_succ])
            refine wpAnyH_take (i := 8) (v := ?_) rfl (by kernel_rfl) (by kernel_rfl) (by kernel_rfl) (fun _ _ _ h => h) (Or.inl ⟨by rfl, ?_⟩) (by assumption) ?_
            rotate_left
            · (intro w hSw; (try dsimp only at hSw); go_simp; (try with_reducible rfl))
            (try simp only [List.getElem_toArray, List.getElem_cons_succ, List.getElem_cons_zero, Act.put, List.setIfInBounds_toArray, List.set_cons_zero, List.set_cons_succ])
            refine wpAnyH_take (i := 12) (v := ?_) rfl (by kernel_rfl) (by kernel_rfl) (by kernel_rfl) (fun _ _ _ h => h) (Or.inl ⟨by rfl, ?_⟩) (by assumption) ?_
            rotate_left
            · (intro w hSw; (try dsimp only at hSw); go_simp; (try with_reducible rfl))
            (try simp only [List.getElem_toArray, List.getElem_cons_succ, List.getElem_cons_zero, Act.put, List.setIfInBounds_toArray, List.set_cons_zero, List.set_cons_succ])
            refine wpAnyH_take (i := 13) (v := ?_) rfl (by kernel_rfl) (by kernel_rfl) (by kernel_rfl) (fun _ _ _ h => h) (Or.inl ⟨by rfl, ?_⟩) (by assumption) ?_
            rotate_left
            · (intro w hSw; (try dsimp only at hSw); go_simp; (try with_reducible rfl))
            (try simp only [List.getElem_toArray, List.getElem_cons_succ, List.getElem_cons_zero, Act.put, List.setIfInBounds_toArray, List.set_cons_zero, List.set_cons_succ])
            refine wpAnyH_ready (rs := [14]) (by kernel_rfl) (by simp) (AllReadyH.cons (o := _) rfl (fun K hK => ?_) AllReadyH.nil)
            go_simp
            go_at_call 102
            refine (ecmp_v k1 k0 hL HS.out).mono ?_
            rintro e w301 ⟨rfl, hb⟩
            replace hO := hO.below hb
            replace hFc := hFc.below hb
            replace K0 := K0.below hb
            replace k0 := k0.below hb
            replace k1 := k1.below hb
            replace p0 := p0.below hb
            replace p1 := p1.below hb
            replace p2 := p2.below hb
            replace p3 := p3.below hb
            replace r0 := r0.below hb
            replace r1 := r1.below hb
            replace r2 := r2.below hb
            replace r3 := r3.below hb
            replace H0 := H0.trans (hb.mono H0.size)
            clear hb
            clear k0
            clear k1
            go_wp2_with fail
            refine hK.out _ _ ⟨r0.eq, r1.eq, r2.eq, r3.eq, p0.eq, p1.eq, p2.eq, p3.eq⟩ (fun hHeld => ?_)
            clear hK K
            (try simp only [List.getElem_toArray, List.getElem_cons_succ, List.getElem_cons_zero, Act.put, List.setIfInBounds_toArray, List.set_cons_zero, List.set_cons_succ])
            refine wpAnyH_take (i := 15) (v := ?_) rfl (by kernel_rfl) (by kernel_rfl) (by kernel_rfl) (fun _ _ _ h => h) (Or.inl ⟨by rfl, ?_⟩) (by assumption) ?_
            rotate_left
            · (intro w hSw; (try dsimp only at hSw); go_simp; (try with_reducible rfl))
            (try simp only [List.getElem_toArray, List.getElem_cons_succ, List.getElem_cons_zero, Act.put, List.setIfInBounds_toArray, List.set_cons_zero, List.set_cons_succ])
            refine wpAnyH_take (i := 16) (v := ?_) rfl (by kernel_rfl) (by kernel_rfl) (by kernel_rfl) (fun _ _ _ h => h) (Or.inl ⟨by rfl, ?_⟩) (by assumption) ?_
            rotate_left
            · (intro w hSw; (try dsimp only at hSw); go_simp; (try with_reducible rfl))
            (try simp only [List.getElem_toArray, List.getElem_cons_succ, List.getElem_cons_zero, Act.put, List.setIfInBounds_toArray, List.set_cons_zero, List.set_cons_succ])
            refine wpAnyH_done (by kernel_rfl) ?_ _
            refine NoPanic.normal ?_
            go_wp2_with fail
            clear H0
            have hD := drawn_below w301
            replace hO := hO.below hD
            replace hFc := hFc.below hD
            replace K0 := K0.below hD
            replace p0 := p0.below hD
            replace p1 := p1.below hD
            replace p2 := p2.below hD
            replace p3 := p3.below hD
            replace r0 := r0.below hD
            replace r1 := r1.below hD
            replace r2 := r2.below hD
            replace r3 := r3.below hD
            clear hD
            refine wp_region_noPanic ?_
            refine wp_region_anyd (by kernel_rfl) ?_
            generalize w301.drew = v900 at hO hFc K0 p0 p1 p2 p3 r0 r1 r2 r3 ⊢
            refine wpAny_take (i := 0) (v := ?_) rfl (by kernel_rfl) (by kernel_rfl) (by kernel_rfl) (fun _ _ _ h => h) (Or.inl ⟨by rfl, ?_⟩) ?_
            rotate_left
            · (intro w; go_simp; (try with_reducible rfl))
            (try simp only [List.getElem_toArray, List.getElem_cons_zero, Act.put, List.setIfInBounds_toArray, List.set_cons_zero, List.set_cons_succ])
            refine wpAny_take (i := 1) (v := ?_) rfl (by kernel_rfl) (by kernel_rfl) (by kernel_rfl) (fun _ _ _ h => h) (Or.inl ⟨by rfl, ?_⟩) ?_
            rotate_left
            · (intro w; go_simp; (try with_reducible rfl))
            (try simp only [List.getElem_toArray, List.getElem_cons_succ, List.getElem_cons_zero, Act.put, List.setIfInBounds_toArray, List.set_cons_zero, List.set_cons_succ])
            refine wpAny_take (i := 2) (v := ?_) rfl (by kernel_rfl) (by kernel_rfl) (by kernel_rfl) (fun _ _ _ h => h) (Or.inl ⟨by rfl, ?_⟩) ?_
            rotate_left
            · (intro w; go_simp; (try with_reducible rfl))
            (try simp only [List.getElem_toArray, List.getElem_cons_succ, List.getElem_cons_zero, Act.put, List.setIfInBounds_toArray, List.set_cons_zero, List.set_cons_succ])
            refine wpAny_take (i := 3) (v := ?_) rfl (by kernel_rfl) (by kernel_rfl) (by kernel_rfl) (fun _ _ _ h => h) (Or.inl ⟨by rfl, ?_⟩) ?_
            rotate_left
            · (intro w; go_simp; (try with_reducible rfl))
            (try simp only [List.getElem_toArray, List.getElem_cons_succ, List.getElem_cons_zero, Act.put, List.setIfInBounds_toArray, List.set_cons_zero, List.set_cons_succ])
            refine wpAny_take (i := 4) (v := ?_) rfl (by kernel_rfl) (by kernel_rfl) (by kernel_rfl) (fun _ _ _ h => h) (Or.inl ⟨by rfl, ?_⟩) ?_
            rotate_left
            · (intro w; go_simp; (try with_reducible rfl))
            (try simp only [List.getElem_toArray, List.getElem_cons_succ, List.getElem_cons_zero, Act.put, List.setIfInBounds_toArray, List.set_cons_zero, List.set_cons_succ])
            refine wpAny_take (i := 5) (v := ?_) rfl (by kernel_rfl) (by kernel_rfl) (by kernel_rfl) (fun _ _ _ h => h) (Or.inl ⟨by rfl, ?_⟩) ?_
            rotate_left
            · (intro w; go_simp; (try with_reducible rfl))
            (try simp only [List.getElem_toArray, List.getElem_cons_succ, List.getElem_cons_zero, Act.put, List.setIfInBounds_toArray, List.set_cons_zero, List.set_cons_succ])
            refine wpAny_take (i := 6) (v := ?_) rfl (by kernel_rfl) (by kernel_rfl) (by kernel_rfl) (fun _ _ _ h => h) (Or.inl ⟨by rfl, ?_⟩) ?_
            rotate_left
            · (intro w; go_simp; (try with_reducible rfl))
            (try simp only [List.getElem_toArray, List.getElem_cons_succ, List.getElem_cons_zero, Act.put, List.setIfInBounds_toArray, List.set_cons_zero, List.set_cons_succ])
            refine wpAny_take (i := 7) (v := ?_) rfl (by kernel_rfl) (by kernel_rfl) (by kernel_rfl) (fun _ _ _ h => h) (Or.inl ⟨by rfl, ?_⟩) ?_
            rotate_left
            · (intro w; go_simp; (try with_reducible rfl))
            (try simp only [List.getElem_toArray, List.getElem_cons_succ, List.getElem_cons_zero, Act.put, List.setIfInBounds_toArray, List.set_cons_zero, List.set_cons_succ])
            refine wpAny_take (i := 8) (v := ?_) rfl (by kernel_rfl) (by kernel_rfl) (by kernel_rfl) (fun _ _ _ h => h) (Or.inl ⟨by rfl, ?_⟩) ?_
            rotate_left
            · (intro w; go_simp; (try with_reducible rfl))
            (try simp only [List.getElem_toArray, List.getElem_cons_succ, List.getElem_cons_zero, Act.put, List.setIfInBounds_toArray, List.set_cons_zero, List.set_cons_succ])
            refine wpAny_take (i := 10) (v := ?_) rfl (by kernel_rfl) (by kernel_rfl) (by kernel_rfl) (fun _ _ _ h => h) (Or.inl ⟨by rfl, ?_⟩) ?_
            rotate_left
            · (intro w; go_simp; (try with_reducible rfl))
            (try simp only [List.getElem_toArray, List.getElem_cons_succ, List.getElem_cons_zero, Act.put, List.setIfInBounds_toArray, List.set_cons_zero, List.set_cons_succ])
            refine wpAny_take (i := 11) (v := ?_) rfl (by kernel_rfl) (by kernel_rfl) (by kernel_rfl) (fun _ _ _ h => h) (Or.inl ⟨by rfl, ?_⟩) ?_
            rotate_left
            · (intro w; go_simp; (try with_reducible rfl))
            (try simp only [List.getElem_toArray, List.getElem_cons_succ, List.getElem_cons_zero, Act.put, List.setIfInBounds_toArray, List.set_cons_zero, List.set_cons_succ])
            refine wpAny_take (i := 12) (v := ?_) rfl (by kernel_rfl) (by kernel_rfl) (by kernel_rfl) (fun _ _ _ h => h) (Or.inl ⟨by rfl, ?_⟩) ?_
            rotate_left
            · (intro w; go_simp; (try with_reducible rfl))
            (try simp only [List.getElem_toArray, List.getElem_cons_succ, List.getElem_cons_zero, Act.put, List.setIfInBounds_toArray, List.set_cons_zero, List.set_cons_succ])
            refine wpAny_of_F (S := (fun V => V.cell? ⟨g, (j + 1) * 4, none⟩ = some (.bool y.1.s) ∧ V.cell? ⟨g, (j + 1) * 4 + 1, none⟩ = some (.slice y.1.A y.1.n y.1.c) ∧ V.cell? ⟨g, (j + 1) * 4 + 2, none⟩ = some (.slice y.1.D y.1.m y.1.e) ∧ V.cell? ⟨g, (j + 1) * 4 + 3, none⟩ = some (.int .i64 y.1.k) ∧ V.cell? ⟨g, j * 4, none⟩ = some (.bool x.1.s) ∧ V.cell? ⟨g, j * 4 + 1, none⟩ = some (.slice x.1.A x.1.n x.1.c) ∧ V.cell? ⟨g, j * 4 + 2, none⟩ = some (.slice x.1.D x.1.m x.1.e) ∧ V.cell? ⟨g, j * 4 + 3, none⟩ = some (.int .i64 x.1.k))) (F := (fun j => j == 15 || j == 16 || j == 17)) _ _ _ _ ?_
            refine wpAnyF_take (i := 9) (v := ?_) (fun j => j == 14 || j == 15 || j == 16 || j == 17) rfl (by kernel_rfl) (by kernel_rfl) (by kernel_rfl) (by kernel_rfl) (fun j hj => by have h6 : 18 ≤ j := hj; simp; omega) (fun _ _ _ h => h) (Or.inl ⟨by rfl, ?_⟩) ⟨r0.eq, r1.eq, r2.eq, r3.eq, p0.eq, p1.eq, p2.eq, p3.eq⟩ ?_
            rotate_left
            · (intro w hSw; (try dsimp only at hSw); go_simp; (try with_reducible rfl))
            (try simp only [List.getElem_toArray, List.getElem_cons_succ, List.getElem_cons_zero, Act.put, List.setIfInBounds_toArray, List.set_cons_zero, List.set_cons_succ])
            refine wpAnyF_take (i := 13) (v := ?_) (fun j => j == 14 || j == 15 || j == 16 || j == 17) rfl (by kernel_rfl) (by kernel_rfl) (by kernel_rfl) (by kernel_rfl) (fun j hj => by have h6 : 18 ≤ j := hj; simp; omega) (fun _ _ _ h => h) (Or.inl ⟨by rfl, ?_⟩) ⟨r0.eq, r1.eq, r2.eq, r3.eq, p0.eq, p1.eq, p2.eq, p3.eq⟩ ?_
            rotate_left
            · (intro w hSw; (try dsimp only at hSw); go_simp; (try with_reducible rfl))
            (try simp only [List.getElem_toArray, List.getElem_cons_succ, List.getElem_cons_zero, Act.put, List.setIfInBounds_toArray, List.set_cons_zero, List.set_cons_succ])
            refine wpAnyF_take (i := 14) (v := ?_) (fun j => j == 15 || j == 16 || j == 17) rfl (by kernel_rfl) (by kernel_rfl) (by kernel_rfl) (by kernel_rfl) (fun j hj => by have h6 : 18 ≤ j := hj; simp; omega) (fun _ _ _ h => h) (Or.inl ⟨by rfl, ?_⟩) ⟨r0.eq, r1.eq, r2.eq, r3.eq, p0.eq, p1.eq, p2.eq, p3.eq⟩ ?_
            rotate_left
            · (intro w hSw; (try dsimp only at hSw); go_simp; (try with_reducible rfl))
            (try simp only [List.getElem_toArray, List.getElem_cons_succ, List.getElem_cons_zero, Act.put, List.setIfInBounds_toArray, List.set_cons_zero, List.set_cons_succ])
            have hfr := hO.clear4
            have y0 := hfr ((j + 1) * 4)
            have y1 := hfr ((j + 1) * 4 + 1)
            have y2 := hfr ((j + 1) * 4 + 2)
            have y3 := hfr ((j + 1) * 4 + 3)
            have y4 := hfr (j * 4)
            have y5 := hfr (j * 4 + 1)
            have y6 := hfr (j * 4 + 2)
            have y7 := hfr (j * 4 + 3)
            have cr0 := r0.eq
            have cr1 := r1.eq
            have cr2 := r2.eq
            have cr3 := r3.eq
            have cp0 := p0.eq
            have cp1 := p1.eq
            have cp2 := p2.eq
            have cp3 := p3.eq
            refine wpAnyF_last (i := 15) (by kernel_rfl) rfl rfl (fun K hK => ?_)
            go_simp
            refine hK.out _ _ ?_
            clear hK K
            (try simp only [List.getElem_toArray, List.getElem_cons_succ, List.getElem_cons_zero, Act.put, List.setIfInBounds_toArray, List.set_cons_zero, List.set_cons_succ])
            refine wpAny_take (i := 16) (v := ?_) rfl (by kernel_rfl) (by kernel_rfl) (by kernel_rfl) (fun _ _ _ h => h) (Or.inl ⟨by rfl, ?_⟩) ?_
            rotate_left
            · (intro w; go_simp; (try with_reducible rfl))
            (try simp only [List.getElem_toArray, List.getElem_cons_succ, List.getElem_cons_zero, Act.put, List.setIfInBounds_toArray, List.set_cons_zero, List.set_cons_succ])
            refine wpAny_one (i := 17) (by kernel_rfl) rfl (fun K hK => ?_)
            go_simp
            refine hK.out _ _ ?_
            clear hK K
            (try simp only [List.getElem_toArray, List.getElem_cons_succ, List.getElem_cons_zero, Act.put, List.setIfInBounds_toArray, List.set_cons_zero, List.set_cons_succ])
            have hg : World.grownBy v900 ((((((((v900.setCell ⟨g, (j + 1) * 4, none⟩ (.bool x.1.s)).setCell ⟨g, (j + 1) * 4 + 1, none⟩ (.slice x.1.A x.1.n x.1.c)).setCell ⟨g, (j + 1) * 4 + 2, none⟩ (.slice x.1.D x.1.m x.1.e)).setCell ⟨g, (j + 1) * 4 + 3, none⟩ (.int .i64 x.1.k)).setCell ⟨g, j * 4, none⟩ (.bool y.1.s)).setCell ⟨g, j * 4 + 1, none⟩ (.slice y.1.A y.1.n y.1.c)).setCell ⟨g, j * 4 + 2, none⟩ (.slice y.1.D y.1.m y.1.e)).setCell ⟨g, j * 4 + 3, none⟩ (.int .i64 y.1.k)) (some g) := only_trans (only_trans (only_trans (only_trans (only_trans (only_trans (only_trans (only_setCell _ ⟨g, (j + 1) * 4, none⟩ (.bool x.1.s)) (only_setCell _ ⟨g, (j + 1) * 4 + 1, none⟩ (.slice x.1.A x.1.n x.1.c))) (only_setCell _ ⟨g, (j + 1) * 4 + 2, none⟩ (.slice x.1.D x.1.m x.1.e))) (only_setCell _ ⟨g, (j + 1) * 4 + 3, none⟩ (.int .i64 x.1.k))) (only_setCell _ ⟨g, j * 4, none⟩ (.bool y.1.s))) (only_setCell _ ⟨g, j * 4 + 1, none⟩ (.slice y.1.A y.1.n y.1.c))) (only_setCell _ ⟨g, j * 4 + 2, none⟩ (.slice y.1.D y.1.m y.1.e))) (only_setCell _ ⟨g, j * 4 + 3, none⟩ (.int .i64 y.1.k))
            have hO9 := own_swap hO HX.out HY.out
            have hF9 := (firm_fct L cu).own (v := .slice (some ⟨g, 0, none⟩) n c) hFc hO.2.2 hg
            generalize hX : ((((((((v900.setCell ⟨g, (j + 1) * 4, none⟩ (.bool x.1.s)).setCell ⟨g, (j + 1) * 4 + 1, none⟩ (.slice x.1.A x.1.n x.1.c)).setCell ⟨g, (j + 1) * 4 + 2, none⟩ (.slice x.1.D x.1.m x.1.e)).setCell ⟨g, (j + 1) * 4 + 3, none⟩ (.int .i64 x.1.k)).setCell ⟨g, j * 4, none⟩ (.bool y.1.s)).setCell ⟨g, j * 4 + 1, none⟩ (.slice y.1.A y.1.n y.1.c)).setCell ⟨g, j * 4 + 2, none⟩ (.slice y.1.D y.1.m y.1.e)).setCell ⟨g, j * 4 + 3, none⟩ (.int .i64 y.1.k)) = X9 at hg hO9 hF9 ⊢
            have K9 : BelB B w X9 := ⟨K0.1.grown hg (by have := hg.size; have := K0.2; omega) (fun k e => by cases e; exact hBg), Nat.le_trans K0.2 hg.size⟩
            replace hF9 := hF9.perm (swap_perm HX.out HY.out)
            clear hX hfr y0 y1 y2 y3 y4 y5 y6 y7 cr0 cp0 cr1 cp1 cr2 cp2 cr3 cp3 hO hFc K0 hg p0 r0 p1 r1 p2 r2 p3 r3
            refine wpAny_done (by kernel_rfl) ?_ _
            refine NoPanic.normal ?_
            go_wp2_with fail
            go_roundw
            case rel => exact ⟨j, _, by go_num, by omega, by rw [List.length_set, List.length_set]; exact HCJ.out, hO9, hF9, by have h2 := HTJ.out; rw [← h2]; rw [ins_succ HX.out HY.out]; exact (if_pos HL9.out).symm, K9⟩
            case measure => simp [intOf] <;> omega
          · have HS := Lib.hid hs
            have HL9 := Lib.hid hl9
            clear hs hl9
            go_wp2_with fail
            have hD := drawn_below wx
            replace hO := hO.below hD
            replace hFc := hFc.below hD
            replace K0 := K0.below hD
            replace k0 := k0.below hD
            replace k1 := k1.below hD
            replace p0 := p0.below hD
            replace p1 := p1.below hD
            replace p2 := p2.below hD
            replace p3 := p3.below hD
            replace r0 := r0.below hD
            replace r1 := r1.below hD
            replace r2 := r2.below hD
            replace r3 := r3.below hD
            have H0 := hD
            clear hD
            refine wp_region_noPanic ?_
            refine wp_region_held_drew (S := (fun V => V.cell? ⟨g, (j + 1) * 4, none⟩ = some (.bool y.1.s) ∧ V.cell? ⟨g, (j + 1) * 4 + 1, none⟩ = some (.slice y.1.A y.1.n y.1.c) ∧ V.cell? ⟨g, (j + 1) * 4 + 2, none⟩ = some (.slice y.1.D y.1.m y.1.e) ∧ V.cell? ⟨g, (j + 1) * 4 + 3, none⟩ = some (.int .i64 y.1.k) ∧ V.cell? ⟨g, j * 4, none⟩ = some (.bool x.1.s) ∧ V.cell? ⟨g, j * 4 + 1, none⟩ = some (.slice x.1.A x.1.n x.1.c) ∧ V.cell? ⟨g, j * 4 + 2, none⟩ = some (.slice x.1.D x.1.m x.1.e) ∧ V.cell? ⟨g, j * 4 + 3, none⟩ = some (.int .i64 x.1.k))) (by kernel_rfl) ⟨r0.eq, r1.eq, r2.eq, r3.eq, p0.eq, p1.eq, p2.eq, p3.eq⟩ (fun hHeld => ?_)
            generalize wx.drew = v300 at H0 hHeld hO hFc K0 k0 k1 p0 p1 p2 p3 r0 r1 r2 r3 ⊢
            refine wpAnyH_take (i := 0) (v := ?_) rfl (by kernel_rfl) (by kernel_rfl) (by kernel_rfl) (fun _ _ _ h => h) (Or.inl ⟨by rfl, ?_⟩) (by assumption) ?_
            rotate_left
            · (intro w hSw; (try dsimp only at hSw); go_simp; (try with_reducible rfl))
            (try simp only [List.getElem_toArray, List.getElem_cons_zero, Act.put, List.setIfInBounds_toArray, List.set_cons_zero, List.set_cons_succ])
            refine wpAnyH_take (i := 1) (v := ?_) rfl (by kernel_rfl) (by kernel_rfl) (by kernel_rfl) (fun _ _ _ h => h) (Or.inl ⟨by rfl, ?_⟩) (by assumption) ?_
            rotate_left
            · (intro w hSw; (try dsimp only at hSw); go_simp; (try with_reducible rfl))
            (try simp only [List.getElem_toArray, List.getElem_cons_succ, List.getElem_cons_zero, Act.put, List.setIfInBounds_toArray, List.set_cons_zero, List.set_cons_succ])
            refine wpAnyH_take (i := 2) (v := ?_) rfl (by kernel_rfl) (by kernel_rfl) (by kernel_rfl) (fun _ _ _ h => h) (Or.inl ⟨by rfl, ?_⟩) (by assumption) ?_
            rotate_left
            · (intro w hSw; (try dsimp only at hSw); go_simp; (try with_reducible rfl))
            (try simp only [List.getElem_toArray, List.getElem_cons_succ, List.getElem_cons_zero, Act.put, List.setIfInBounds_toArray, List.set_cons_zero, List.set_cons_succ])
            refine wpAnyH_take (i := 3) (v := ?_) rfl (by kernel_rfl) (by kernel_rfl) (by kernel_rfl) (fun _ _ _ h => h) (Or.inl ⟨by rfl, ?_⟩) (by assumption) ?_
            rotate_left
            · (intro w hSw; (try dsimp only at hSw); go_simp; (try with_reducible rfl))
            (try simp only [List.getElem_toArray, List.getElem_cons_succ, List.getElem_cons_zero, Act.put, List.setIfInBounds_toArray, List.set_cons_zero, List.set_cons_succ])
            refine wpAnyH_take (i := 4) (v := ?_) rfl (by kernel_rfl) (by kernel_rfl) (by kernel_rfl) (fun _ _ _ h => h) (Or.inl ⟨by rfl, ?_⟩) (by assumption) ?_
            rotate_left
            · (intro w hSw; (try dsimp only at hSw); go_simp; (try with_reducible rfl))
            (try simp only [List.getElem_toArray, List.getElem_cons_succ, List.getElem_cons_zero, Act.put, List.setIfInBounds_toArray, List.set_cons_zero, List.set_cons_succ])
            refine wpAnyH_take (i := 5) (v := ?_) rfl (by kernel_rfl) (by kernel_rfl) (by kernel_rfl) (fun _ _ _ h => h) (Or.inl ⟨by rfl, ?_⟩) (by assumption) ?_
            rotate_left
            · (intro w hSw; (try dsimp only at hSw); go_simp; (try with_reducible rfl))
            (try simp only [List.getElem_toArray, List.getElem_cons_succ, List.getElem_cons_zero, Act.put, List.setIfInBounds_toArray, List.set_cons_zero, List.set_cons_succ])
            refine wpAnyH_take (i := 6) (v := ?_) rfl (by kernel_rfl) (by kernel_rfl) (by kernel_rfl) (fun _ _ _ h => h) (Or.inl ⟨by rfl, ?_⟩) (by assumption) ?_
            rotate_left
            · (intro w hSw; (try dsimp only at hSw); go_simp; (try with_reducible rfl))
            (try simp only [List.getElem_toArray, List.getElem_cons_succ, List.getElem_cons_zero, Act.put, List.setIfInBounds_toArray, List.set_cons_zero, List.set_cons_succ])
            refine wpAnyH_take (i := 9) (v := ?_) rfl (by kernel_rfl) (by kernel_rfl) (by kernel_rfl) (fun _ _ _ h => h) (Or.inl ⟨by rfl, ?_⟩) (by assumption) ?_
            rotate_left
            · (intro w hSw; (try dsimp only at hSw); go_simp; (try with_reducible rfl))
            (try simp only [List.getElem_toArray, List.getElem_cons_succ, List.getElem_cons_zero, Act.put, List.setIfInBounds_toArray, List.set_cons_zero, List.set_cons_succ])
            refine wpAnyH_take (i := 10) (v := ?_) rfl (by kernel_rfl) (by kernel_rfl) (by kernel_rfl) (fun _ _ _ h => h) (Or.inl ⟨by rfl, ?_⟩) (by assumption) ?_
            rotate_left
            · (intro w hSw; (try dsimp only at hSw); go_simp; (try with_reducible rfl))
            (try simp only [List.getElem_toArray, List.getElem_cons_succ, List.getElem_cons_zero, Act.put, List.setIfInBounds_toArray, List.set_cons_zero, List.set_cons_succ])
            refine wpAnyH_take (i := 7) (v := ?_) rfl (by kernel_rfl) (by kernel_rfl) (by kernel_rfl) (fun _ _ _ h => h) (Or.inl ⟨by rfl, ?_⟩) (by assumption) ?_
            rotate_left
            · (intro w hSw; (try dsimp only at hSw); go_simp; (try with_reducible rfl))
            (try simp only [List.getElem_toArray, List.getElem_cons_succ, List.getElem_cons_zero, Act.put, List.setIfInBounds_toArray, List.set_cons_zero, List.set_cons_succ])
            refine wpAnyH_take (i := 11) (v := ?_) rfl (by kernel_rfl) (by kernel_rfl) (by kernel_rfl) (fun _ _ _ h => h) (Or.inl ⟨by rfl, ?_⟩) (by assumption) ?_
            rotate_left
            · (intro w hSw; (try dsimp only at hSw); go_simp; (try with_reducible rfl))
            (try simp only [List.getElem_toArray, List.getElem_cons_succ, List.getElem_cons_zero, Act.put, List.setIfInBounds_toArray, List.set_cons_zero, List.set_cons_succ])
            refine wpAnyH_take (i := 8) (v := ?_) rfl (by kernel_rfl) (by kernel_rfl) (by kernel_rfl) (fun _ _ _ h => h) (Or.inl ⟨by rfl, ?_⟩) (by assumption) ?_
            rotate_left
            · (intro w hSw; (try dsimp only at hSw); go_simp; (try with_reducible rfl))
            (try simp only [List.getElem_toArray, List.getElem_cons_succ, List.getElem_cons_zero, Act.put, List.setIfInBounds_toArray, List.set_cons_zero, List.set_cons_succ])
            refine wpAnyH_take (i := 12) (v := ?_) rfl (by kernel_rfl) (by kernel_rfl) (by kernel_rfl) (fun _ _ _ h => h) (Or.inl ⟨by rfl, ?_⟩) (by assumption) ?_
            rotate_left
            · (intro w hSw; (try dsimp only at hSw); go_simp; (try with_reducible rfl))
            (try simp only [List.getElem_toArray, List.getElem_cons_succ, List.getElem_cons_zero, Act.put, List.setIfInBounds_toArray, List.set_cons_zero, List.set_cons_succ])
            refine wpAnyH_take (i := 13) (v := ?_) rfl (by kernel_rfl) (by kernel_rfl) (by kernel_rfl) (fun _ _ _ h => h) (Or.inl ⟨by rfl, ?_⟩) (by assumption) ?_
            rotate_left
            · (intro w hSw; (try dsimp only at hSw); go_simp; (try with_reducible rfl))
            (try simp only [List.getElem_toArray, List.getElem_cons_succ, List.getElem_cons_zero, Act.put, List.setIfInBounds_toArray, List.set_cons_zero, List.set_cons_succ])
            refine wpAnyH_ready (rs := [14]) (by kernel_rfl) (by simp) (AllReadyH.cons (o := _) rfl (fun K hK => ?_) AllReadyH.nil)
            go_simp
            go_at_call 102
            refine (ecmp_v k1 k0 hL HS.out).mono ?_
            rintro e w301 ⟨rfl, hb⟩
            replace hO := hO.below hb
            replace hFc := hFc.below hb
            replace K0 := K0.below hb
            replace k0 := k0.below hb
            replace k1 := k1.below hb
            replace p0 := p0.below hb
            replace p1 := p1.below hb
            replace p2 := p2.below hb
            replace p3 := p3.below hb
            replace r0 := r0.below hb
            replace r1 := r1.below hb
            replace r2 := r2.below hb
            replace r3 := r3.below hb
            replace H0 := H0.trans (hb.mono H0.size)
            clear hb
            clear k0
            clear k1
            go_wp2_with fail
            refine hK.out _ _ ⟨r0.eq, r1.eq, r2.eq, r3.eq, p0.eq, p1.eq, p2.eq, p3.eq⟩ (fun hHeld => ?_)
            clear hK K
            (try simp only [List.getElem_toArray, List.getElem_cons_succ, List.getElem_cons_zero, Act.put, List.setIfInBounds_toArray, List.set_cons_zero, List.set_cons_succ])
            refine wpAnyH_take (i := 15) (v := ?_) rfl (by kernel_rfl) (by kernel_rfl) (by kernel_rfl) (fun _ _ _ h => h) (Or.inl ⟨by rfl, ?_⟩) (by assumption) ?_
            rotate_left
            · (intro w hSw; (try dsimp only at hSw); go_simp; (try with_reducible rfl))
            (try simp only [List.getElem_toArray, List.getElem_cons_succ, List.getElem_cons_zero, Act.put, List.setIfInBounds_toArray, List.set_cons_zero, List.set_cons_succ])
            refine wpAnyH_take (i := 16) (v := ?_) rfl (by kernel_rfl) (by kernel_rfl) (by kernel_rfl) (fun _ _ _ h => h) (Or.inl ⟨by rfl, ?_⟩) (by assumption) ?_
            rotate_left
            · (intro w hSw; (try dsimp only at hSw); go_simp; (try with_reducible rfl))
            (try simp only [List.getElem_toArray, List.getElem_cons_succ, List.getElem_cons_zero, Act.put, List.setIfInBounds_toArray, List.set_cons_zero, List.set_cons_succ])
            refine wpAnyH_done (by kernel_rfl) ?_ _
            refine NoPanic.normal ?_
            go_wp2_with fail
            skip
            go_roundw
            case rel => exact ⟨i + 1, cu, by go_num, by omega, HCJ.out, hO, hFc, by have h1 := HTG.out; have h2 := HTJ.out; rw [← h1, show n - 1 - i = (n - 1 - (i + 1)) + 1 by omega]; show _ = srt _ _ _ (ins _ _ _); rw [← h2]; congr 1; rw [ins_succ HX.out HY.out]; exact (if_neg (by have := HL9.out; grind)).symm, K0⟩
            case measure => simp [intOf]; omega
          · have HS := Lib.hid hs
            have HL9 := Lib.hid hl9
            clear hs hl9
            go_wp2_with fail
            have hD := drawn_below wx
            replace hO := hO.below hD
            replace hFc := hFc.below hD
            replace K0 := K0.below hD
            replace k0 := k0.below hD
            replace k1 := k1.below hD
            replace p0 := p0.below hD
            replace p1 := p1.below hD
            replace p2 := p2.below hD
            replace p3 := p3.below hD
            replace r0 := r0.below hD
            replace r1 := r1.below hD
            replace r2 := r2.below hD
            replace r3 := r3.below hD
            have H0 := hD
            clear hD
            refine wp_region_noPanic ?_
            refine wp_region_held_drew (S := (fun V => V.cell? ⟨g, (j + 1) * 4, none⟩ = some (.bool y.1.s) ∧ V.cell? ⟨g, (j + 1) * 4 + 1, none⟩ = some (.slice y.1.A y.1.n y.1.c) ∧ V.cell? ⟨g, (j + 1) * 4 + 2, none⟩ = some (.slice y.1.D y.1.m y.1.e) ∧ V.cell? ⟨g, (j + 1) * 4 + 3, none⟩ = some (.int .i64 y.1.k) ∧ V.cell? ⟨g, j * 4, none⟩ = some (.bool x.1.s) ∧ V.cell? ⟨g, j * 4 + 1, none⟩ = some (.slice x.1.A x.1.n x.1.c) ∧ V.cell? ⟨g, j * 4 + 2, none⟩ = some (.slice x.1.D x.1.m x.1.e) ∧ V.cell? ⟨g, j * 4 + 3, none⟩ = some (.int .i64 x.1.k))) (by kernel_rfl) ⟨r0.eq, r1.eq, r2.eq, r3.eq, p0.eq, p1.eq, p2.eq, p3.eq⟩ (fun hHeld => ?_)
            generalize wx.drew = v300 at H0 hHeld hO hFc K0 k0 k1 p0 p1 p2 p3 r0 r1 r2 r3 ⊢
            refine wpAnyH_take (i := 0) (v := ?_) rfl (by kernel_rfl) (by kernel_rfl) (by kernel_rfl) (fun _ _ _ h => h) (Or.inl ⟨by rfl, ?_⟩) (by assumption) ?_
            rotate_left
            · (intro w hSw; (try dsimp only at hSw); go_simp; (try with_reducible rfl))
            (try simp only [List.getElem_toArray, List.getElem_cons_zero, Act.put, List.setIfInBounds_toArray, List.set_cons_zero, List.set_cons_succ])
            refine wpAnyH_take (i := 1) (v := ?_) rfl (by kernel_rfl) (by kernel_rfl) (by kernel_rfl) (fun _ _ _ h => h) (Or.inl ⟨by rfl, ?_⟩) (by assumption) ?_
            rotate_left
            · (intro w hSw; (try dsimp only at hSw); go_simp; (try with_reducible rfl))
            (try simp only [List.getElem_toArray, List.getElem_cons_succ, List.getElem_cons_zero, Act.put, List.setIfInBounds_toArray, List.set_cons_zero, List.set_cons_succ])
            refine wpAnyH_take (i := 2) (v := ?_) rfl (by kernel_rfl) (by kernel_rfl) (by kernel_rfl) (fun _ _ _ h => h) (Or.inl ⟨by rfl, ?_⟩) (by assumption) ?_
            rotate_left
            · (intro w hSw; (try dsimp only at hSw); go_simp; (try with_reducible rfl))
            (try simp only [List.getElem_toArray, List.getElem_cons_succ, List.getElem_cons_zero, Act.put, List.setIfInBounds_toArray, List.set_cons_zero, List.set_cons_succ])
            refine wpAnyH_take (i := 3) (v := ?_) rfl (by kernel_rfl) (by kernel_rfl) (by kernel_rfl) (fun _ _ _ h => h) (Or.inl ⟨by rfl, ?_⟩) (by assumption) ?_
            rotate_left
            · (intro w hSw; (try dsimp only at hSw); go_simp; (try with_reducible rfl))
            (try simp only [List.getElem_toArray, List.getElem_cons_succ, List.getElem_cons_zero, Act.put, List.setIfInBounds_toArray, List.set_cons_zero, List.set_cons_succ])
            refine wpAnyH_take (i := 4) (v := ?_) rfl (by kernel_rfl) (by kernel_rfl) (by kernel_rfl) (fun _ _ _ h => h) (Or.inl ⟨by rfl, ?_⟩) (by assumption) ?_
            rotate_left
            · (intro w hSw; (try dsimp only at hSw); go_simp; (try with_reducible rfl))
            (try simp only [List.getElem_toArray, List.getElem_cons_succ, List.getElem_cons_zero, Act.put, List.setIfInBounds_toArray, List.set_cons_zero, List.set_cons_succ])
            refine wpAnyH_take (i := 5) (v := ?_) rfl (by kernel_rfl) (by kernel_rfl) (by kernel_rfl) (fun _ _ _ h => h) (Or.inl ⟨by rfl, ?_⟩) (by assumption) ?_
            rotate_left
            · (intro w hSw; (try dsimp only at hSw); go_simp; (try with_reducible rfl))
            (try simp only [List.getElem_toArray, List.getElem_cons_succ, List.getElem_cons_zero, Act.put, List.setIfInBounds_toArray, List.set_cons_zero, List.set_cons_succ])
            refine wpAnyH_take (i := 6) (v := ?_) rfl (by kernel_rfl) (by kernel_rfl) (by kernel_rfl) (fun _ _ _ h => h) (Or.inl ⟨by rfl, ?_⟩) (by assumption) ?_
            rotate_left
            · (intro w hSw; (try dsimp only at hSw); go_simp; (try with_reducible rfl))
            (try simp only [List.getElem_toArray, List.getElem_cons_succ, List.getElem_cons_zero, Act.put, List.setIfInBounds_toArray, List.set_cons_zero, List.set_cons_succ])
            refine wpAnyH_take (i := 9) (v := ?_) rfl (by kernel_rfl) (by kernel_rfl) (by kernel_rfl) (fun _ _ _ h => h) (Or.inl ⟨by rfl, ?_⟩) (by assumption) ?_
            rotate_left
            · (intro w hSw; (try dsimp only at hSw); go_simp; (try with_reducible rfl))
            (try simp only [List.getElem_toArray, List.getElem_cons_succ, List.getElem_cons_zero, Act.put, List.setIfInBounds_toArray, List.set_cons_zero, List.set_cons_succ])
            refine wpAnyH_take (i := 10) (v := ?_) rfl (by kernel_rfl) (by kernel_rfl) (by kernel_rfl) (fun _ _ _ h => h) (Or.inl ⟨by rfl, ?_⟩) (by assumption) ?_
            rotate_left
            · (intro w hSw; (try dsimp only at hSw); go_simp; (try with_reducible rfl))
            (try simp only [List.getElem_toArray, List.getElem_cons_succ, List.getElem_cons_zero, Act.put, List.setIfInBounds_toArray, List.set_cons_zero, List.set_cons_succ])
            refine wpAnyH_take (i := 7) (v := ?_) rfl (by kernel_rfl) (by kernel_rfl) (by kernel_rfl) (fun _ _ _ h => h) (Or.inl ⟨by rfl, ?_⟩) (by assumption) ?_
            rotate_left
            · (intro w hSw; (try dsimp only at hSw); go_simp; (try with_reducible rfl))
            (try simp only [List.getElem_toArray, List.getElem_cons_succ, List.getElem_cons_zero, Act.put, List.setIfInBounds_toArray, List.set_cons_zero, List.set_cons_succ])
            refine wpAnyH_take (i := 11) (v := ?_) rfl (by kernel_rfl) (by kernel_rfl) (by kernel_rfl) (fun _ _ _ h => h) (Or.inl ⟨by rfl, ?_⟩) (by assumption) ?_
            rotate_left
            · (intro w hSw; (try dsimp only at hSw); go_simp; (try with_reducible rfl))
            (try simp only [List.getElem_toArray, List.getElem_cons_succ, List.getElem_cons_zero, Act.put, List.setIfInBounds_toArray, List.set_cons_zero, List.set_cons_succ])
            refine wpAnyH_take (i := 8) (v := ?_) rfl (by kernel_rfl) (by kernel_rfl) (by kernel_rfl) (fun _ _ _ h => h) (Or.inl ⟨by rfl, ?_⟩) (by assumption) ?_
            rotate_left
            · (intro w hSw; (try dsimp only at hSw); go_simp; (try with_reducible rfl))
            (try simp only [List.getElem_toArray, List.getElem_cons_succ, List.getElem_cons_zero, Act.put, List.setIfInBounds_toArray, List.set_cons_zero, List.set_cons_succ])
            refine wpAnyH_take (i := 12) (v := ?_) rfl (by kernel_rfl) (by kernel_rfl) (by kernel_rfl) (fun _ _ _ h => h) (Or.inl ⟨by rfl, ?_⟩) (by assumption) ?_
            rotate_left
            · (intro w hSw; (try dsimp only at hSw); go_simp; (try with_reducible rfl))
            (try simp only [List.getElem_toArray, List.getElem_cons_succ, List.getElem_cons_zero, Act.put, List.setIfInBounds_toArray, List.set_cons_zero, List.set_cons_succ])
            refine wpAnyH_take (i := 13) (v := ?_) rfl (by kernel_rfl) (by kernel_rfl) (by kernel_rfl) (fun _ _ _ h => h) (Or.inl ⟨by rfl, ?_⟩) (by assumption) ?_
            rotate_left
            · (intro w hSw; (try dsimp only at hSw); go_simp; (try with_reducible rfl))
            (try simp only [List.getElem_toArray, List.getElem_cons_succ, List.getElem_cons_zero, Act.put, List.setIfInBounds_toArray, List.set_cons_zero, List.set_cons_succ])
            refine wpAnyH_ready (rs := [14]) (by kernel_rfl) (by simp) (AllReadyH.cons (o := _) rfl (fun K hK => ?_) AllReadyH.nil)
            go_simp
            go_at_call 102
            refine (ecmp_v k1 k0 hL HS.out).mono ?_
            rintro e w301 ⟨rfl, hb⟩
            replace hO := hO.below hb
            replace hFc := hFc.below hb
            replace K0 := K0.below hb
            replace k0 := k0.below hb
            replace k1 := k1.below hb
            replace p0 := p0.below hb
            replace p1 := p1.below hb
            replace p2 := p2.below hb
            replace p3 := p3.below hb
            replace r0 := r0.below hb
            replace r1 := r1.below hb
            replace r2 := r2.below hb
            replace r3 := r3.below hb
            replace H0 := H0.trans (hb.mono H0.size)
            clear hb
            clear k0
            clear k1
            go_wp2_with fail
            refine hK.out _ _ ⟨r0.eq, r1.eq, r2.eq, r3.eq, p0.eq, p1.eq, p2.eq, p3.eq⟩ (fun hHeld => ?_)
            clear hK K
            (try simp only [List.getElem_toArray, List.getElem_cons_succ, List.getElem_cons_zero, Act.put, List.setIfInBounds_toArray, List.set_cons_zero, List.set_cons_succ])
            refine wpAnyH_take (i := 15) (v := ?_) rfl (by kernel_rfl) (by kernel_rfl) (by kernel_rfl) (fun _ _ _ h => h) (Or.inl ⟨by rfl, ?_⟩) (by assumption) ?_
            rotate_left
            · (intro w hSw; (try dsimp only at hSw); go_simp; (try with_reducible rfl))
            (try simp only [List.getElem_toArray, List.getElem_cons_succ, List.getElem_cons_zero, Act.put, List.setIfInBounds_toArray, List.set_cons_zero, List.set_cons_succ])
            refine wpAnyH_take (i := 16) (v := ?_) rfl (by kernel_rfl) (by kernel_rfl) (by kernel_rfl) (fun _ _ _ h => h) (Or.inl ⟨by rfl, ?_⟩) (by assumption) ?_
            rotate_left
            · (intro w hSw; (try dsimp only at hSw); go_simp; (try with_reducible rfl))
            (try simp only [List.getElem_toArray, List.getElem_cons_succ, List.getElem_cons_zero, Act.put, List.setIfInBounds_toArray, List.set_cons_zero, List.set_cons_succ])
            refine wpAnyH_done (by kernel_rfl) ?_ _
            refine NoPanic.normal ?_
            go_wp2_with fail
            skip
            go_roundw
            case rel => exact ⟨i + 1, cu, by go_num, by omega, HCJ.out, hO, hFc, by have h1 := HTG.out; have h2 := HTJ.out; rw [← h1, show n - 1 - i = (n - 1 - (i + 1)) + 1 by omega]; show _ = srt _ _ _ (ins _ _ _); rw [← h2]; congr 1; rw [ins_succ HX.out HY.out]; exact (if_neg (by have := HL9.out; grind)).symm, K0⟩
            case measure => simp [intOf]; omega
    · have hd : decide ((i : Int) + 1 < (n : Int)) = false := decide_eq_false (by omega)
      go_wp2_with fail
      go_returns
      exact ⟨rfl, by have h1 := HTG.out; rw [show n - 1 - i = 0 by omega] at h1; have h2 : cur = srt (fun p => p.2) (n - 1) 1 ps := h1; rw [← h2]; exact ⟨hO, hFc⟩, K0.1⟩
end
end Go.Proofs.YtpgkkkodniiilaaGreatDoor
