/-
  What some of the statements need.
-/
import Derived.Test.YtfdlkbbepkghmaaGreatDoorVSq
import Derived.Test.YtfdlkbbepkghmaaGreatDoorVBox
import Derived.Test.YtfdlkbbepkghmaaGreatDoorVDivLong
import Derived.Test.YtfdlkbbepkghmaaGreatDoorVFormI
import Derived.Test.YtfdlkbbepkghmaaGreatDoorVK1
import Derived.Test.YtfdlkbbepkghmaaGreatDoorVK2
import Derived.Test.YtfdlkbbepkghmaaGreatDoorVK3
import Derived.Test.YtfdlkbbepkghmaaGreatDoorVK4
import Derived.Test.YtfdlkbbepkghmaaGreatDoorVK5
import Derived.Test.YtfdlkbbepkghmaaGreatDoorVK6
import Derived.Test.YtfdlkbbepkghmaaGreatDoorVK7
import Derived.Test.YtfdlkbbepkghmaaGreatDoorVK8
import Derived.Test.YtfdlkbbepkghmaaGreatDoorVK9
import Derived.Test.YtfdlkbbepkghmaaGreatDoorVN1
import Derived.Test.YtfdlkbbepkghmaaGreatDoorVOrd
import Derived.Test.YtfdlkbbepkghmaaGreatDoorVPP
import Derived.Test.YtfdlkbbepkghmaaGreatDoorVR1
import Derived.Test.YtfdlkbbepkghmaaGreatDoorVRA
import Derived.Test.YtfdlkbbepkghmaaGreatDoorVRatD
import Derived.Test.YtfdlkbbepkghmaaGreatDoorVRatO
import Derived.Test.YtfdlkbbepkghmaaGreatDoorVRatR
import Derived.Test.YtfdlkbbepkghmaaGreatDoorVRatS
import Derived.Test.YtfdlkbbepkghmaaGreatDoorVS1
import Derived.Test.YtfdlkbbepkghmaaGreatDoorVSA
import Derived.Test.YtfdlkbbepkghmaaGreatDoorVSG
import Derived.Test.YtfdlkbbepkghmaaGreatDoorVShelf
import Derived.Test.YtfdlkbbepkghmaaGreatDoorVSpH
import Derived.Test.YtfdlkbbepkghmaaGreatDoorVSpI
import Derived.Test.YtfdlkbbepkghmaaGreatDoorVSpJ
import Derived.Test.YtfdlkbbepkghmaaGreatDoorVSpK
import Derived.Test.YtfdlkbbepkghmaaGreatDoorVSpM
import Derived.Test.YtfdlkbbepkghmaaGreatDoorVSpN
import Derived.Test.YtfdlkbbepkghmaaGreatDoorVSpT
import Derived.Test.YtfdlkbbepkghmaaGreatDoorVSpU
import Derived.Test.YtfdlkbbepkghmaaGreatDoorVSpV
import Derived.Test.YtfdlkbbepkghmaaGreatDoorVSpW0
import Derived.Test.YtfdlkbbepkghmaaGreatDoorVSpX
import Derived.Test.YtfdlkbbepkghmaaGreatDoorVSpY
import Derived.Test.YtfdlkbbepkghmaaGreatDoorVSpZ
import Derived.Test.YtfdlkbbepkghmaaGreatDoorVTT
import Derived.IntWalk
import Derived.Deep.Cut
namespace Go.Proofs.YtfdlkbbepkghmaaGreatDoor

/-- The set's own membership. -/
theorem mem_mkS {ts : List Rat} (ht : Asc ts) {x : Rat} (hx : x ∉ ts) : memL (mkS none ts) x = evT false ts x ∧ (∀ lo : Option Rat, (∀ a, lo = some a → a < x ∧ ∀ t ∈ ts, a < t) → memL (mkS (some lo) ts) x = evT true ts x) ∧ ∀ a, x < a → (∀ t ∈ ts, a < t) → memL (mkS (some (some a)) ts) x = false := by
  induction ts with
  | nil =>
    refine ⟨rfl, fun lo h => ?_, fun a h _ => ?_⟩
    · cases lo with
      | none => rfl
      | some a => have := (h a rfl).1; simp [mkS, memL, memS, evT, this]
    · have : ¬ a < x := by grind
      simp [mkS, memL, memS, this]
  | cons t ts ih =>
    have hx1 : x ≠ t := fun e => hx (by rw [e]; exact List.mem_cons_self ..)
    have hx2 : x ∉ ts := fun hm => hx (List.mem_cons_of_mem _ hm)
    obtain ⟨i1, i2, i3⟩ := ih ht.2 hx2
    have low : x < t → memL (mkS none ts) x = false := fun h => by
      rw [i1]; exact evT_low fun u hu => by have := ht.1 u hu; grind
    refine ⟨?_, fun lo h => ?_, fun a h1 h2 => ?_⟩
    · show memL (mkS (some (some t)) ts) x = if t < x then evT (!false) ts x else false
      by_cases h : t < x
      · rw [if_pos h]; exact i2 (some t) fun a ha => by injection ha with ha; subst ha; exact ⟨h, ht.1⟩
      · rw [if_neg h]; exact i3 t (by grind) ht.1
    · show memL (⟨lo, some t⟩ :: mkS none ts) x = if t < x then evT (!true) ts x else true
      have hm : memL (⟨lo, some t⟩ :: mkS none ts) x = (memS ⟨lo, some t⟩ x || memL (mkS none ts) x) := by unfold memL; rw [List.any_cons]
      rw [hm]
      by_cases h' : t < x
      · rw [if_pos h', i1]
        have : memS ⟨lo, some t⟩ x = false := by
          have : ¬ x < t := by grind
          simp [memS, this]
        rw [this]; rfl
      · rw [if_neg h', low (by grind)]
        have hxt : x < t := by grind
        cases lo with
        | none => simp [memS, hxt]
        | some a => have := (h a rfl).1; simp [memS, hxt, this]
    · show memL (⟨some a, some t⟩ :: mkS none ts) x = false
      have hm : memL (⟨some a, some t⟩ :: mkS none ts) x = (memS ⟨some a, some t⟩ x || memL (mkS none ts) x) := by unfold memL; rw [List.any_cons]
      have h3 := h2 t (List.mem_cons_self ..)
      rw [hm, low (by grind)]
      have : ¬ a < x := by grind
      simp [memS, this]
theorem mem_set {b : Bool} {ts : List Rat} (ht : Asc ts) {x : Rat} (hx : x ∉ ts) : memL (spansOf b ts) x = evT b ts x := by
  cases b
  · exact (mem_mkS ht hx).1
  · exact (mem_mkS ht hx).2.1 none fun a ha => (by cases ha)
theorem ends_mkS {ts : List Rat} : (∀ s ∈ mkS none ts, (∀ a, s.lo = some a → a ∈ ts) ∧ ∀ b, s.hi = some b → b ∈ ts) ∧ ∀ lo : Option Rat, ∀ s ∈ mkS (some lo) ts, (∀ a, s.lo = some a → lo = some a ∨ a ∈ ts) ∧ ∀ b, s.hi = some b → b ∈ ts := by
  induction ts with
  | nil =>
    refine ⟨fun s h => (by cases h), fun lo s h => ?_⟩
    have := List.mem_singleton.1 h; subst this
    exact ⟨fun a ha => .inl ha, fun b hb => (by cases hb)⟩
  | cons t ts ih =>
    refine ⟨fun s h => ?_, fun lo s h => ?_⟩
    · have := ih.2 (some t) s h
      exact ⟨fun a ha => by
        rcases this.1 a ha with e | e
        · injection e with e; subst e; exact List.mem_cons_self ..
        · exact List.mem_cons_of_mem _ e, fun b hb => List.mem_cons_of_mem _ (this.2 b hb)⟩
    · rcases List.mem_cons.1 h with rfl | h
      · exact ⟨fun a ha => .inl ha, fun b hb => by injection hb with hb; subst hb; exact List.mem_cons_self ..⟩
      · have := ih.1 s h
        exact ⟨fun a ha => .inr (List.mem_cons_of_mem _ (this.1 a ha)), fun b hb => List.mem_cons_of_mem _ (this.2 b hb)⟩
theorem ends_set {b : Bool} {ts : List Rat} : ∀ s ∈ spansOf b ts, (∀ a, s.lo = some a → a ∈ ts) ∧ ∀ b, s.hi = some b → b ∈ ts := by
  cases b
  · exact ends_mkS.1
  · intro s h
    have := ends_mkS.2 none s h
    exact ⟨fun a ha => (this.1 a ha).resolve_left fun e => (by cases e), this.2⟩
end Go.Proofs.YtfdlkbbepkghmaaGreatDoor
namespace Go.Proofs.YtfdlkbbepkghmaaGreatDoor
open Go.RowKit

section
variable {f0 h0 f1 h1 f2 h2 f3 h3 f4 h4 f5 h5 f6 h6 f7 h7 f8 h8 f9 h9 f10 h10 f11 h11 : Bool} {A0 A1 A2 A3 A4 D0 D1 D3 D4 : Option Addr} {n0 n1 n2 n3 n4 c0 c1 c2 c3 c4 m0 m1 m3 m4 e0 e1 e3 e4 : Nat} {s0 s1 s3 s4 : Bool} {q0 q1 q2 q3 q4 q5 q6 q7 : Rat} {z0 z1 z2 z3 z4 z5 z6 z7 z8 z9 z10 z11 : Int} {L L0 L1 x y : Nat} {k : Int} {w : World}
variable {o0 o1 o2 o3 : Option Rat} {l l' : List Sp}
/-- Where a number lies to a span: -1 inside, 0 at an end, 1 outside. -/
def plS (s : Sp) (x : Rat) : Int := match s.lo, s.hi with
  | none, none => -1
  | some a, none => rsg (a - x)
  | none, some b => max (-1) (rsg (x - b))
  | some a, some b => max (rsg (a - x)) (rsg (x - b))
theorem rsg_swap (a b : Rat) : rsg (a - b) = -rsg (b - a) := by
  rcases rsg_tri a b with ⟨h1, h2⟩ | ⟨h1, h2⟩ | ⟨h1, h2⟩
  · rw [h1, rsg_gt h2]
  · rw [h1, rsg_eq h2.symm]; rfl
  · rw [h1, rsg_lt h2]; rfl
theorem pl_tri (s : Sp) (x : Rat) : plS s x = -1 ∨ plS s x = 0 ∨ plS s x = 1 := by
  unfold plS
  cases s.lo with
  | none =>
    cases s.hi with
    | none => exact .inl rfl
    | some b => rcases rsg_tri x b with ⟨h1, _⟩ | ⟨h1, _⟩ | ⟨h1, _⟩ <;> simp only [h1] <;> decide
  | some a =>
    cases s.hi with
    | none => rcases rsg_tri a x with ⟨h1, _⟩ | ⟨h1, _⟩ | ⟨h1, _⟩ <;> simp only [h1] <;> decide
    | some b => rcases rsg_tri a x with ⟨h1, _⟩ | ⟨h1, _⟩ | ⟨h1, _⟩ <;> rcases rsg_tri x b with ⟨h2, _⟩ | ⟨h2, _⟩ | ⟨h2, _⟩ <;> simp only [h1, h2] <;> decide
theorem cls_pl (s : Sp) (x : Rat) : clsS s x = if plS s x = -1 then some 2 else if plS s x = 0 then some 1 else none := by
  unfold clsS plS loS hiS
  cases s.lo with
  | none =>
    cases s.hi with
    | none => rfl
    | some b => rcases rsg_tri x b with ⟨h1, _⟩ | ⟨h1, _⟩ | ⟨h1, _⟩ <;> simp only [h1] <;> decide
  | some a =>
    cases s.hi with
    | none => simp only [rsg_swap a x]; rcases rsg_tri x a with ⟨h1, _⟩ | ⟨h1, _⟩ | ⟨h1, _⟩ <;> simp only [h1] <;> decide
    | some b => simp only [rsg_swap a x]; rcases rsg_tri x a with ⟨h1, _⟩ | ⟨h1, _⟩ | ⟨h1, _⟩ <;> rcases rsg_tri x b with ⟨h2, _⟩ | ⟨h2, _⟩ | ⟨h2, _⟩ <;> simp only [h1, h2] <;> decide
theorem cls_in {s : Sp} {x : Rat} (h : plS s x = -1) : clsS s x = some 2 := by rw [cls_pl, if_pos h]
theorem cls_on {s : Sp} {x : Rat} (h : plS s x = 0) : clsS s x = some 1 := by rw [cls_pl, if_neg (by omega), if_pos h]
theorem cls_out {s : Sp} {x : Rat} (h : plS s x = 1) : clsS s x = none := by rw [cls_pl, if_neg (by omega), if_neg (by omega)]
theorem cls_mkS {ts : List Rat} (ht : Asc ts) {x : Rat} : (x ∈ ts → clsL (mkS none ts) x = 1) ∧ (∀ lo : Option Rat, (∀ a, lo = some a → ∀ t ∈ ts, a < t) → x ∈ ts → clsL (mkS (some lo) ts) x = 1) ∧ ((∀ t ∈ ts, x < t) → clsL (mkS (some (some x)) ts) x = 1) := by
  induction ts with
  | nil => exact ⟨fun h => (by cases h), fun _ _ h => (by cases h), fun _ => by simp [mkS, clsL, clsS, loS, hiS, rsg_eq rfl]⟩
  | cons t ts ih =>
    obtain ⟨i1, i2, i3⟩ := ih ht.2
    refine ⟨fun h => ?_, fun lo hlo h => ?_, fun h => ?_⟩
    · show clsL (mkS (some (some t)) ts) x = 1
      rcases List.mem_cons.1 h with rfl | h
      · exact i3 ht.1
      · exact i2 (some t) (fun a ha => by injection ha with ha; subst ha; exact ht.1) h
    · have hlt : ∀ u, u = x → (∀ a, lo = some a → a < u) → loS lo x = 1 := fun u hu ha => by
        subst hu
        cases lo with
        | none => rfl
        | some a => exact rsg_gt (ha a rfl)
      show clsL (⟨lo, some t⟩ :: mkS none ts) x = 1
      rcases List.mem_cons.1 h with e | h
      · have h1 := hlt x rfl fun a ha => by rw [e]; exact hlo a ha t (List.mem_cons_self ..)
        unfold clsL clsS
        simp only [h1, hiS, rsg_eq e]
        simp
      · have h1 := hlt x rfl fun a ha => hlo a ha x (List.mem_cons_of_mem _ h)
        have h2 : rsg (x - t) = 1 := rsg_gt (ht.1 x h)
        unfold clsL clsS
        simp only [h1, hiS, h2]
        simpa using i1 h
    · have h1 : rsg (x - t) = -1 := rsg_lt (h t (List.mem_cons_self ..))
      show clsL (⟨some x, some t⟩ :: mkS none ts) x = 1
      unfold clsL clsS
      simp only [loS, hiS, h1, rsg_eq rfl]
      simp
theorem cls_end {g : Bool} {ts : List Rat} (ht : Asc ts) {x : Rat} (h : x ∈ ts) : clsL (spansOf g ts) x = 1 := by
  cases g
  · exact (cls_mkS ht).1 h
  · exact (cls_mkS ht).2.1 none (fun a ha => (by cases ha)) h
theorem cls_set {g : Bool} {ts : List Rat} (ht : Asc ts) {x : Rat} (h : x ∉ ts) : clsL (spansOf g ts) x = if evT g ts x then 2 else 0 := by
  rw [clsL_off (fun s hs => ⟨fun e => h ((ends_set s hs).1 x e), fun e => h ((ends_set s hs).2 x e)⟩), mem_set ht h]
/-- What the class of a number says of a set: whether it is an end, and else whether it is inside. -/
theorem cls_says {g : Bool} {ts : List Rat} (ht : Asc ts) (x : Rat) : clsL (spansOf g ts) x = 1 ∨ (clsL (spansOf g ts) x = 2 ∧ x ∉ ts ∧ evT g ts x = true) ∨ (clsL (spansOf g ts) x = 0 ∧ x ∉ ts ∧ evT g ts x = false) := by
  by_cases h : x ∈ ts
  · exact .inl (cls_end ht h)
  · have := cls_set (g := g) ht h
    cases he : evT g ts x
    · exact .inr (.inr ⟨by rw [this, he]; rfl, h, rfl⟩)
    · exact .inr (.inl ⟨by rw [this, he]; rfl, h, rfl⟩)
set_option maxRecDepth 100000 in
set_option maxHeartbeats 4000000 in
theorem place_v {q : Rat} (x0 : EndV w L s0 (.slice A0 n0 c0) (.slice D0 m0 e0) f0 o0) (x1 : EndV w L s1 (.slice A1 n1 c1) (.slice D1 m1 e1) h0 o1) (hq : RQ w s4 (.slice A4 n4 c4) (.slice D4 m4 e4) q L0) (hL : L ≤ 1000) (hL0 : L0 ≤ 1000) :
    Calls Tryz.prog 50 #[.agg #[.bool s0, .slice A0 n0 c0, .slice D0 m0 e0, .bool s1, .slice A1 n1 c1, .slice D1 m1 e1, .bool f0, .bool h0], .agg #[.bool s4, .slice A4 n4 c4, .slice D4 m4 e4]] w fun e w' => e = .returned (.int .i64 (plS ⟨o0, o1⟩ q)) ∧ Below w.heap.size w w' := by
  rcases o0 with _ | p <;> rcases o1 with _ | p'
  · obtain ⟨rfl, rfl, -, -⟩ := x0.no rfl
    obtain ⟨rfl, rfl, -, -⟩ := x1.no rfl
    clear x0 x1
    go_enter Tryz.func50, Tryz.ntmps50
    go_wp2_with fail
    obtain ⟨W0, hW, b2, b3, hbW, hszW0⟩ := boxes2 w #[.bool false, .slice A0 n0 c0, .slice D0 m0 e0, .bool false, .slice A1 n1 c1, .slice D1 m1 e1, .bool true, .bool true] #[.bool s4, .slice A4 n4 c4, .slice D4 m4 e4] 32 28
    rw [hW]
    clear hW
    replace hq := hq.below hbW
    have H0 := hbW
    clear hbW
    obtain ⟨cb20, cb21, cb22, cb23, cb24, cb25, cb26, cb27⟩ := b2.cells8
    obtain ⟨cb30, cb31, cb32⟩ := b3.cells3
    go_wp2_with fail
    clear cb20 cb21 cb22 cb23 cb24 cb25 cb26 cb27 cb30 cb31 cb32
    go_returns
    exact ⟨rfl, H0⟩
  · obtain ⟨rfl, rfl, -, -⟩ := x0.no rfl
    obtain ⟨rfl, k1⟩ := x1.yes rfl
    clear x0 x1
    obtain ⟨b, hb⟩ : ∃ k, rsg (q - p') = k := ⟨_, rfl⟩
    have hb3 : b = -1 ∨ b = 0 ∨ b = 1 := by rw [← hb]; rcases rsg_tri q p' with h9 | h9 | h9 <;> omega
    rcases hb3 with rfl | rfl | rfl
    · have HB := Lib.hid hb
      clear hb
      go_enter Tryz.func50, Tryz.ntmps50
      go_wp2_with fail
      obtain ⟨W0, hW, b2, b3, hbW, hszW0⟩ := boxes2 w #[.bool false, .slice A0 n0 c0, .slice D0 m0 e0, .bool s1, .slice A1 n1 c1, .slice D1 m1 e1, .bool true, .bool false] #[.bool s4, .slice A4 n4 c4, .slice D4 m4 e4] 32 28
      rw [hW]
      clear hW
      replace hq := hq.below hbW
      replace k1 := k1.below hbW
      have H0 := hbW
      clear hbW
      obtain ⟨cb20, cb21, cb22, cb23, cb24, cb25, cb26, cb27⟩ := b2.cells8
      obtain ⟨cb30, cb31, cb32⟩ := b3.cells3
      go_wp2_with fail
      clear cb20 cb21 cb22 cb23 cb24 cb25 cb26 cb27 cb30 cb31 cb32
      refine (rcmp_v hq k1.rq (by omega) (by omega) HB.out).mono ?_
      rintro e w1 ⟨rfl, hb⟩
      replace hq := hq.below hb
      replace k1 := k1.below hb
      replace b2 := b2.below hb
      replace b3 := b3.below hb
      replace H0 := H0.trans (hb.mono H0.size)
      clear hb
      obtain ⟨cb20, cb21, cb22, cb23, cb24, cb25, cb26, cb27⟩ := b2.cells8
      obtain ⟨cb30, cb31, cb32⟩ := b3.cells3
      go_wp2_with fail
      clear cb20 cb21 cb22 cb23 cb24 cb25 cb26 cb27 cb30 cb31 cb32
      go_returns
      exact ⟨by first | rfl | (simp only [plS, HB.out]; rfl), H0⟩
    · have HB := Lib.hid hb
      clear hb
      go_enter Tryz.func50, Tryz.ntmps50
      go_wp2_with fail
      obtain ⟨W0, hW, b2, b3, hbW, hszW0⟩ := boxes2 w #[.bool false, .slice A0 n0 c0, .slice D0 m0 e0, .bool s1, .slice A1 n1 c1, .slice D1 m1 e1, .bool true, .bool false] #[.bool s4, .slice A4 n4 c4, .slice D4 m4 e4] 32 28
      rw [hW]
      clear hW
      replace hq := hq.below hbW
      replace k1 := k1.below hbW
      have H0 := hbW
      clear hbW
      obtain ⟨cb20, cb21, cb22, cb23, cb24, cb25, cb26, cb27⟩ := b2.cells8
      obtain ⟨cb30, cb31, cb32⟩ := b3.cells3
      go_wp2_with fail
      clear cb20 cb21 cb22 cb23 cb24 cb25 cb26 cb27 cb30 cb31 cb32
      refine (rcmp_v hq k1.rq (by omega) (by omega) HB.out).mono ?_
      rintro e w1 ⟨rfl, hb⟩
      replace hq := hq.below hb
      replace k1 := k1.below hb
      replace b2 := b2.below hb
      replace b3 := b3.below hb
      replace H0 := H0.trans (hb.mono H0.size)
      clear hb
      obtain ⟨cb20, cb21, cb22, cb23, cb24, cb25, cb26, cb27⟩ := b2.cells8
      obtain ⟨cb30, cb31, cb32⟩ := b3.cells3
      go_wp2_with fail
      clear cb20 cb21 cb22 cb23 cb24 cb25 cb26 cb27 cb30 cb31 cb32
      go_returns
      exact ⟨by first | rfl | (simp only [plS, HB.out]; rfl), H0⟩
    · have HB := Lib.hid hb
      clear hb
      go_enter Tryz.func50, Tryz.ntmps50
      go_wp2_with fail
      obtain ⟨W0, hW, b2, b3, hbW, hszW0⟩ := boxes2 w #[.bool false, .slice A0 n0 c0, .slice D0 m0 e0, .bool s1, .slice A1 n1 c1, .slice D1 m1 e1, .bool true, .bool false] #[.bool s4, .slice A4 n4 c4, .slice D4 m4 e4] 32 28
      rw [hW]
      clear hW
      replace hq := hq.below hbW
      replace k1 := k1.below hbW
      have H0 := hbW
      clear hbW
      obtain ⟨cb20, cb21, cb22, cb23, cb24, cb25, cb26, cb27⟩ := b2.cells8
      obtain ⟨cb30, cb31, cb32⟩ := b3.cells3
      go_wp2_with fail
      clear cb20 cb21 cb22 cb23 cb24 cb25 cb26 cb27 cb30 cb31 cb32
      refine (rcmp_v hq k1.rq (by omega) (by omega) HB.out).mono ?_
      rintro e w1 ⟨rfl, hb⟩
      replace hq := hq.below hb
      replace k1 := k1.below hb
      replace b2 := b2.below hb
      replace b3 := b3.below hb
      replace H0 := H0.trans (hb.mono H0.size)
      clear hb
      obtain ⟨cb20, cb21, cb22, cb23, cb24, cb25, cb26, cb27⟩ := b2.cells8
      obtain ⟨cb30, cb31, cb32⟩ := b3.cells3
      go_wp2_with fail
      clear cb20 cb21 cb22 cb23 cb24 cb25 cb26 cb27 cb30 cb31 cb32
      go_returns
      exact ⟨by first | rfl | (simp only [plS, HB.out]; rfl), H0⟩
  · obtain ⟨rfl, k0⟩ := x0.yes rfl
    obtain ⟨rfl, rfl, -, -⟩ := x1.no rfl
    clear x0 x1
    obtain ⟨a, ha⟩ : ∃ k, rsg (p - q) = k := ⟨_, rfl⟩
    have ha3 : a = -1 ∨ a = 0 ∨ a = 1 := by rw [← ha]; rcases rsg_tri p q with h9 | h9 | h9 <;> omega
    rcases ha3 with rfl | rfl | rfl
    · have HA := Lib.hid ha
      clear ha
      go_enter Tryz.func50, Tryz.ntmps50
      go_wp2_with fail
      obtain ⟨W0, hW, b2, b3, hbW, hszW0⟩ := boxes2 w #[.bool s0, .slice A0 n0 c0, .slice D0 m0 e0, .bool false, .slice A1 n1 c1, .slice D1 m1 e1, .bool false, .bool true] #[.bool s4, .slice A4 n4 c4, .slice D4 m4 e4] 32 28
      rw [hW]
      clear hW
      replace hq := hq.below hbW
      replace k0 := k0.below hbW
      have H0 := hbW
      clear hbW
      obtain ⟨cb20, cb21, cb22, cb23, cb24, cb25, cb26, cb27⟩ := b2.cells8
      obtain ⟨cb30, cb31, cb32⟩ := b3.cells3
      go_wp2_with fail
      clear cb20 cb21 cb22 cb23 cb24 cb25 cb26 cb27 cb30 cb31 cb32
      refine (rcmp_v k0.rq hq (by omega) (by omega) HA.out).mono ?_
      rintro e w1 ⟨rfl, hb⟩
      replace hq := hq.below hb
      replace k0 := k0.below hb
      replace b2 := b2.below hb
      replace b3 := b3.below hb
      replace H0 := H0.trans (hb.mono H0.size)
      clear hb
      obtain ⟨cb20, cb21, cb22, cb23, cb24, cb25, cb26, cb27⟩ := b2.cells8
      obtain ⟨cb30, cb31, cb32⟩ := b3.cells3
      go_wp2_with fail
      clear cb20 cb21 cb22 cb23 cb24 cb25 cb26 cb27 cb30 cb31 cb32
      go_returns
      exact ⟨by first | rfl | (simp only [plS, HA.out]; rfl), H0⟩
    · have HA := Lib.hid ha
      clear ha
      go_enter Tryz.func50, Tryz.ntmps50
      go_wp2_with fail
      obtain ⟨W0, hW, b2, b3, hbW, hszW0⟩ := boxes2 w #[.bool s0, .slice A0 n0 c0, .slice D0 m0 e0, .bool false, .slice A1 n1 c1, .slice D1 m1 e1, .bool false, .bool true] #[.bool s4, .slice A4 n4 c4, .slice D4 m4 e4] 32 28
      rw [hW]
      clear hW
      replace hq := hq.below hbW
      replace k0 := k0.below hbW
      have H0 := hbW
      clear hbW
      obtain ⟨cb20, cb21, cb22, cb23, cb24, cb25, cb26, cb27⟩ := b2.cells8
      obtain ⟨cb30, cb31, cb32⟩ := b3.cells3
      go_wp2_with fail
      clear cb20 cb21 cb22 cb23 cb24 cb25 cb26 cb27 cb30 cb31 cb32
      refine (rcmp_v k0.rq hq (by omega) (by omega) HA.out).mono ?_
      rintro e w1 ⟨rfl, hb⟩
      replace hq := hq.below hb
      replace k0 := k0.below hb
      replace b2 := b2.below hb
      replace b3 := b3.below hb
      replace H0 := H0.trans (hb.mono H0.size)
      clear hb
      obtain ⟨cb20, cb21, cb22, cb23, cb24, cb25, cb26, cb27⟩ := b2.cells8
      obtain ⟨cb30, cb31, cb32⟩ := b3.cells3
      go_wp2_with fail
      clear cb20 cb21 cb22 cb23 cb24 cb25 cb26 cb27 cb30 cb31 cb32
      go_returns
      exact ⟨by first | rfl | (simp only [plS, HA.out]; rfl), H0⟩
    · have HA := Lib.hid ha
      clear ha
      go_enter Tryz.func50, Tryz.ntmps50
      go_wp2_with fail
      obtain ⟨W0, hW, b2, b3, hbW, hszW0⟩ := boxes2 w #[.bool s0, .slice A0 n0 c0, .slice D0 m0 e0, .bool false, .slice A1 n1 c1, .slice D1 m1 e1, .bool false, .bool true] #[.bool s4, .slice A4 n4 c4, .slice D4 m4 e4] 32 28
      rw [hW]
      clear hW
      replace hq := hq.below hbW
      replace k0 := k0.below hbW
      have H0 := hbW
      clear hbW
      obtain ⟨cb20, cb21, cb22, cb23, cb24, cb25, cb26, cb27⟩ := b2.cells8
      obtain ⟨cb30, cb31, cb32⟩ := b3.cells3
      go_wp2_with fail
      clear cb20 cb21 cb22 cb23 cb24 cb25 cb26 cb27 cb30 cb31 cb32
      refine (rcmp_v k0.rq hq (by omega) (by omega) HA.out).mono ?_
      rintro e w1 ⟨rfl, hb⟩
      replace hq := hq.below hb
      replace k0 := k0.below hb
      replace b2 := b2.below hb
      replace b3 := b3.below hb
      replace H0 := H0.trans (hb.mono H0.size)
      clear hb
      obtain ⟨cb20, cb21, cb22, cb23, cb24, cb25, cb26, cb27⟩ := b2.cells8
      obtain ⟨cb30, cb31, cb32⟩ := b3.cells3
      go_wp2_with fail
      clear cb20 cb21 cb22 cb23 cb24 cb25 cb26 cb27 cb30 cb31 cb32
      go_returns
      exact ⟨by first | rfl | (simp only [plS, HA.out]; rfl), H0⟩
  · obtain ⟨rfl, k0⟩ := x0.yes rfl
    obtain ⟨rfl, k1⟩ := x1.yes rfl
    clear x0 x1
    obtain ⟨a, ha⟩ : ∃ k, rsg (p - q) = k := ⟨_, rfl⟩
    have ha3 : a = -1 ∨ a = 0 ∨ a = 1 := by rw [← ha]; rcases rsg_tri p q with h9 | h9 | h9 <;> omega
    obtain ⟨b, hb⟩ : ∃ k, rsg (q - p') = k := ⟨_, rfl⟩
    have hb3 : b = -1 ∨ b = 0 ∨ b = 1 := by rw [← hb]; rcases rsg_tri q p' with h9 | h9 | h9 <;> omega
    rcases ha3 with rfl | rfl | rfl
    · rcases hb3 with rfl | rfl | rfl
      · have HA := Lib.hid ha
        clear ha
        have HB := Lib.hid hb
        clear hb
        go_enter Tryz.func50, Tryz.ntmps50
        go_wp2_with fail
        obtain ⟨W0, hW, b2, b3, hbW, hszW0⟩ := boxes2 w #[.bool s0, .slice A0 n0 c0, .slice D0 m0 e0, .bool s1, .slice A1 n1 c1, .slice D1 m1 e1, .bool false, .bool false] #[.bool s4, .slice A4 n4 c4, .slice D4 m4 e4] 32 28
        rw [hW]
        clear hW
        replace hq := hq.below hbW
        replace k0 := k0.below hbW
        replace k1 := k1.below hbW
        have H0 := hbW
        clear hbW
        obtain ⟨cb20, cb21, cb22, cb23, cb24, cb25, cb26, cb27⟩ := b2.cells8
        obtain ⟨cb30, cb31, cb32⟩ := b3.cells3
        go_wp2_with fail
        clear cb20 cb21 cb22 cb23 cb24 cb25 cb26 cb27 cb30 cb31 cb32
        refine (rcmp_v k0.rq hq (by omega) (by omega) HA.out).mono ?_
        rintro e w1 ⟨rfl, hb⟩
        replace hq := hq.below hb
        replace k0 := k0.below hb
        replace k1 := k1.below hb
        replace b2 := b2.below hb
        replace b3 := b3.below hb
        replace H0 := H0.trans (hb.mono H0.size)
        clear hb
        obtain ⟨cb20, cb21, cb22, cb23, cb24, cb25, cb26, cb27⟩ := b2.cells8
        obtain ⟨cb30, cb31, cb32⟩ := b3.cells3
        go_wp2_with fail
        clear cb20 cb21 cb22 cb23 cb24 cb25 cb26 cb27 cb30 cb31 cb32
        refine (rcmp_v hq k1.rq (by omega) (by omega) HB.out).mono ?_
        rintro e w2 ⟨rfl, hb⟩
        replace hq := hq.below hb
        replace k0 := k0.below hb
        replace k1 := k1.below hb
        replace b2 := b2.below hb
        replace b3 := b3.below hb
        replace H0 := H0.trans (hb.mono H0.size)
        clear hb
        obtain ⟨cb20, cb21, cb22, cb23, cb24, cb25, cb26, cb27⟩ := b2.cells8
        obtain ⟨cb30, cb31, cb32⟩ := b3.cells3
        go_wp2_with fail
        clear cb20 cb21 cb22 cb23 cb24 cb25 cb26 cb27 cb30 cb31 cb32
        go_returns
        exact ⟨by first | rfl | (simp only [plS, HA.out, HB.out]; rfl), H0⟩
      · have HA := Lib.hid ha
        clear ha
        have HB := Lib.hid hb
        clear hb
        go_enter Tryz.func50, Tryz.ntmps50
        go_wp2_with fail
        obtain ⟨W0, hW, b2, b3, hbW, hszW0⟩ := boxes2 w #[.bool s0, .slice A0 n0 c0, .slice D0 m0 e0, .bool s1, .slice A1 n1 c1, .slice D1 m1 e1, .bool false, .bool false] #[.bool s4, .slice A4 n4 c4, .slice D4 m4 e4] 32 28
        rw [hW]
        clear hW
        replace hq := hq.below hbW
        replace k0 := k0.below hbW
        replace k1 := k1.below hbW
        have H0 := hbW
        clear hbW
        obtain ⟨cb20, cb21, cb22, cb23, cb24, cb25, cb26, cb27⟩ := b2.cells8
        obtain ⟨cb30, cb31, cb32⟩ := b3.cells3
        go_wp2_with fail
        clear cb20 cb21 cb22 cb23 cb24 cb25 cb26 cb27 cb30 cb31 cb32
        refine (rcmp_v k0.rq hq (by omega) (by omega) HA.out).mono ?_
        rintro e w1 ⟨rfl, hb⟩
        replace hq := hq.below hb
        replace k0 := k0.below hb
        replace k1 := k1.below hb
        replace b2 := b2.below hb
        replace b3 := b3.below hb
        replace H0 := H0.trans (hb.mono H0.size)
        clear hb
        obtain ⟨cb20, cb21, cb22, cb23, cb24, cb25, cb26, cb27⟩ := b2.cells8
        obtain ⟨cb30, cb31, cb32⟩ := b3.cells3
        go_wp2_with fail
        clear cb20 cb21 cb22 cb23 cb24 cb25 cb26 cb27 cb30 cb31 cb32
        refine (rcmp_v hq k1.rq (by omega) (by omega) HB.out).mono ?_
        rintro e w2 ⟨rfl, hb⟩
        replace hq := hq.below hb
        replace k0 := k0.below hb
        replace k1 := k1.below hb
        replace b2 := b2.below hb
        replace b3 := b3.below hb
        replace H0 := H0.trans (hb.mono H0.size)
        clear hb
        obtain ⟨cb20, cb21, cb22, cb23, cb24, cb25, cb26, cb27⟩ := b2.cells8
        obtain ⟨cb30, cb31, cb32⟩ := b3.cells3
        go_wp2_with fail
        clear cb20 cb21 cb22 cb23 cb24 cb25 cb26 cb27 cb30 cb31 cb32
        go_returns
        exact ⟨by first | rfl | (simp only [plS, HA.out, HB.out]; rfl), H0⟩
      · have HA := Lib.hid ha
        clear ha
        have HB := Lib.hid hb
        clear hb
        go_enter Tryz.func50, Tryz.ntmps50
        go_wp2_with fail
        obtain ⟨W0, hW, b2, b3, hbW, hszW0⟩ := boxes2 w #[.bool s0, .slice A0 n0 c0, .slice D0 m0 e0, .bool s1, .slice A1 n1 c1, .slice D1 m1 e1, .bool false, .bool false] #[.bool s4, .slice A4 n4 c4, .slice D4 m4 e4] 32 28
        rw [hW]
        clear hW
        replace hq := hq.below hbW
        replace k0 := k0.below hbW
        replace k1 := k1.below hbW
        have H0 := hbW
        clear hbW
        obtain ⟨cb20, cb21, cb22, cb23, cb24, cb25, cb26, cb27⟩ := b2.cells8
        obtain ⟨cb30, cb31, cb32⟩ := b3.cells3
        go_wp2_with fail
        clear cb20 cb21 cb22 cb23 cb24 cb25 cb26 cb27 cb30 cb31 cb32
        refine (rcmp_v k0.rq hq (by omega) (by omega) HA.out).mono ?_
        rintro e w1 ⟨rfl, hb⟩
        replace hq := hq.below hb
        replace k0 := k0.below hb
        replace k1 := k1.below hb
        replace b2 := b2.below hb
        replace b3 := b3.below hb
        replace H0 := H0.trans (hb.mono H0.size)
        clear hb
        obtain ⟨cb20, cb21, cb22, cb23, cb24, cb25, cb26, cb27⟩ := b2.cells8
        obtain ⟨cb30, cb31, cb32⟩ := b3.cells3
        go_wp2_with fail
        clear cb20 cb21 cb22 cb23 cb24 cb25 cb26 cb27 cb30 cb31 cb32
        refine (rcmp_v hq k1.rq (by omega) (by omega) HB.out).mono ?_
        rintro e w2 ⟨rfl, hb⟩
        replace hq := hq.below hb
        replace k0 := k0.below hb
        replace k1 := k1.below hb
        replace b2 := b2.below hb
        replace b3 := b3.below hb
        replace H0 := H0.trans (hb.mono H0.size)
        clear hb
        obtain ⟨cb20, cb21, cb22, cb23, cb24, cb25, cb26, cb27⟩ := b2.cells8
        obtain ⟨cb30, cb31, cb32⟩ := b3.cells3
        go_wp2_with fail
        clear cb20 cb21 cb22 cb23 cb24 cb25 cb26 cb27 cb30 cb31 cb32
        go_returns
        exact ⟨by first | rfl | (simp only [plS, HA.out, HB.out]; rfl), H0⟩
    · rcases hb3 with rfl | rfl | rfl
      · have HA := Lib.hid ha
        clear ha
        have HB := Lib.hid hb
        clear hb
        go_enter Tryz.func50, Tryz.ntmps50
        go_wp2_with fail
        obtain ⟨W0, hW, b2, b3, hbW, hszW0⟩ := boxes2 w #[.bool s0, .slice A0 n0 c0, .slice D0 m0 e0, .bool s1, .slice A1 n1 c1, .slice D1 m1 e1, .bool false, .bool false] #[.bool s4, .slice A4 n4 c4, .slice D4 m4 e4] 32 28
        rw [hW]
        clear hW
        replace hq := hq.below hbW
        replace k0 := k0.below hbW
        replace k1 := k1.below hbW
        have H0 := hbW
        clear hbW
        obtain ⟨cb20, cb21, cb22, cb23, cb24, cb25, cb26, cb27⟩ := b2.cells8
        obtain ⟨cb30, cb31, cb32⟩ := b3.cells3
        go_wp2_with fail
        clear cb20 cb21 cb22 cb23 cb24 cb25 cb26 cb27 cb30 cb31 cb32
        refine (rcmp_v k0.rq hq (by omega) (by omega) HA.out).mono ?_
        rintro e w1 ⟨rfl, hb⟩
        replace hq := hq.below hb
        replace k0 := k0.below hb
        replace k1 := k1.below hb
        replace b2 := b2.below hb
        replace b3 := b3.below hb
        replace H0 := H0.trans (hb.mono H0.size)
        clear hb
        obtain ⟨cb20, cb21, cb22, cb23, cb24, cb25, cb26, cb27⟩ := b2.cells8
        obtain ⟨cb30, cb31, cb32⟩ := b3.cells3
        go_wp2_with fail
        clear cb20 cb21 cb22 cb23 cb24 cb25 cb26 cb27 cb30 cb31 cb32
        refine (rcmp_v hq k1.rq (by omega) (by omega) HB.out).mono ?_
        rintro e w2 ⟨rfl, hb⟩
        replace hq := hq.below hb
        replace k0 := k0.below hb
        replace k1 := k1.below hb
        replace b2 := b2.below hb
        replace b3 := b3.below hb
        replace H0 := H0.trans (hb.mono H0.size)
        clear hb
        obtain ⟨cb20, cb21, cb22, cb23, cb24, cb25, cb26, cb27⟩ := b2.cells8
        obtain ⟨cb30, cb31, cb32⟩ := b3.cells3
        go_wp2_with fail
        clear cb20 cb21 cb22 cb23 cb24 cb25 cb26 cb27 cb30 cb31 cb32
        go_returns
        exact ⟨by first | rfl | (simp only [plS, HA.out, HB.out]; rfl), H0⟩
      · have HA := Lib.hid ha
        clear ha
        have HB := Lib.hid hb
        clear hb
        go_enter Tryz.func50, Tryz.ntmps50
        go_wp2_with fail
        obtain ⟨W0, hW, b2, b3, hbW, hszW0⟩ := boxes2 w #[.bool s0, .slice A0 n0 c0, .slice D0 m0 e0, .bool s1, .slice A1 n1 c1, .slice D1 m1 e1, .bool false, .bool false] #[.bool s4, .slice A4 n4 c4, .slice D4 m4 e4] 32 28
        rw [hW]
        clear hW
        replace hq := hq.below hbW
        replace k0 := k0.below hbW
        replace k1 := k1.below hbW
        have H0 := hbW
        clear hbW
        obtain ⟨cb20, cb21, cb22, cb23, cb24, cb25, cb26, cb27⟩ := b2.cells8
        obtain ⟨cb30, cb31, cb32⟩ := b3.cells3
        go_wp2_with fail
        clear cb20 cb21 cb22 cb23 cb24 cb25 cb26 cb27 cb30 cb31 cb32
        refine (rcmp_v k0.rq hq (by omega) (by omega) HA.out).mono ?_
        rintro e w1 ⟨rfl, hb⟩
        replace hq := hq.below hb
        replace k0 := k0.below hb
        replace k1 := k1.below hb
        replace b2 := b2.below hb
        replace b3 := b3.below hb
        replace H0 := H0.trans (hb.mono H0.size)
        clear hb
        obtain ⟨cb20, cb21, cb22, cb23, cb24, cb25, cb26, cb27⟩ := b2.cells8
        obtain ⟨cb30, cb31, cb32⟩ := b3.cells3
        go_wp2_with fail
        clear cb20 cb21 cb22 cb23 cb24 cb25 cb26 cb27 cb30 cb31 cb32
        refine (rcmp_v hq k1.rq (by omega) (by omega) HB.out).mono ?_
        rintro e w2 ⟨rfl, hb⟩
        replace hq := hq.below hb
        replace k0 := k0.below hb
        replace k1 := k1.below hb
        replace b2 := b2.below hb
        replace b3 := b3.below hb
        replace H0 := H0.trans (hb.mono H0.size)
        clear hb
        obtain ⟨cb20, cb21, cb22, cb23, cb24, cb25, cb26, cb27⟩ := b2.cells8
        obtain ⟨cb30, cb31, cb32⟩ := b3.cells3
        go_wp2_with fail
        clear cb20 cb21 cb22 cb23 cb24 cb25 cb26 cb27 cb30 cb31 cb32
        go_returns
        exact ⟨by first | rfl | (simp only [plS, HA.out, HB.out]; rfl), H0⟩
      · have HA := Lib.hid ha
        clear ha
        have HB := Lib.hid hb
        clear hb
        go_enter Tryz.func50, Tryz.ntmps50
        go_wp2_with fail
        obtain ⟨W0, hW, b2, b3, hbW, hszW0⟩ := boxes2 w #[.bool s0, .slice A0 n0 c0, .slice D0 m0 e0, .bool s1, .slice A1 n1 c1, .slice D1 m1 e1, .bool false, .bool false] #[.bool s4, .slice A4 n4 c4, .slice D4 m4 e4] 32 28
        rw [hW]
        clear hW
        replace hq := hq.below hbW
        replace k0 := k0.below hbW
        replace k1 := k1.below hbW
        have H0 := hbW
        clear hbW
        obtain ⟨cb20, cb21, cb22, cb23, cb24, cb25, cb26, cb27⟩ := b2.cells8
        obtain ⟨cb30, cb31, cb32⟩ := b3.cells3
        go_wp2_with fail
        clear cb20 cb21 cb22 cb23 cb24 cb25 cb26 cb27 cb30 cb31 cb32
        refine (rcmp_v k0.rq hq (by omega) (by omega) HA.out).mono ?_
        rintro e w1 ⟨rfl, hb⟩
        replace hq := hq.below hb
        replace k0 := k0.below hb
        replace k1 := k1.below hb
        replace b2 := b2.below hb
        replace b3 := b3.below hb
        replace H0 := H0.trans (hb.mono H0.size)
        clear hb
        obtain ⟨cb20, cb21, cb22, cb23, cb24, cb25, cb26, cb27⟩ := b2.cells8
        obtain ⟨cb30, cb31, cb32⟩ := b3.cells3
        go_wp2_with fail
        clear cb20 cb21 cb22 cb23 cb24 cb25 cb26 cb27 cb30 cb31 cb32
        refine (rcmp_v hq k1.rq (by omega) (by omega) HB.out).mono ?_
        rintro e w2 ⟨rfl, hb⟩
        replace hq := hq.below hb
        replace k0 := k0.below hb
        replace k1 := k1.below hb
        replace b2 := b2.below hb
        replace b3 := b3.below hb
        replace H0 := H0.trans (hb.mono H0.size)
        clear hb
        obtain ⟨cb20, cb21, cb22, cb23, cb24, cb25, cb26, cb27⟩ := b2.cells8
        obtain ⟨cb30, cb31, cb32⟩ := b3.cells3
        go_wp2_with fail
        clear cb20 cb21 cb22 cb23 cb24 cb25 cb26 cb27 cb30 cb31 cb32
        go_returns
        exact ⟨by first | rfl | (simp only [plS, HA.out, HB.out]; rfl), H0⟩
    · rcases hb3 with rfl | rfl | rfl
      · have HA := Lib.hid ha
        clear ha
        have HB := Lib.hid hb
        clear hb
        go_enter Tryz.func50, Tryz.ntmps50
        go_wp2_with fail
        obtain ⟨W0, hW, b2, b3, hbW, hszW0⟩ := boxes2 w #[.bool s0, .slice A0 n0 c0, .slice D0 m0 e0, .bool s1, .slice A1 n1 c1, .slice D1 m1 e1, .bool false, .bool false] #[.bool s4, .slice A4 n4 c4, .slice D4 m4 e4] 32 28
        rw [hW]
        clear hW
        replace hq := hq.below hbW
        replace k0 := k0.below hbW
        replace k1 := k1.below hbW
        have H0 := hbW
        clear hbW
        obtain ⟨cb20, cb21, cb22, cb23, cb24, cb25, cb26, cb27⟩ := b2.cells8
        obtain ⟨cb30, cb31, cb32⟩ := b3.cells3
        go_wp2_with fail
        clear cb20 cb21 cb22 cb23 cb24 cb25 cb26 cb27 cb30 cb31 cb32
        refine (rcmp_v k0.rq hq (by omega) (by omega) HA.out).mono ?_
        rintro e w1 ⟨rfl, hb⟩
        replace hq := hq.below hb
        replace k0 := k0.below hb
        replace k1 := k1.below hb
        replace b2 := b2.below hb
        replace b3 := b3.below hb
        replace H0 := H0.trans (hb.mono H0.size)
        clear hb
        obtain ⟨cb20, cb21, cb22, cb23, cb24, cb25, cb26, cb27⟩ := b2.cells8
        obtain ⟨cb30, cb31, cb32⟩ := b3.cells3
        go_wp2_with fail
        clear cb20 cb21 cb22 cb23 cb24 cb25 cb26 cb27 cb30 cb31 cb32
        refine (rcmp_v hq k1.rq (by omega) (by omega) HB.out).mono ?_
        rintro e w2 ⟨rfl, hb⟩
        replace hq := hq.below hb
        replace k0 := k0.below hb
        replace k1 := k1.below hb
        replace b2 := b2.below hb
        replace b3 := b3.below hb
        replace H0 := H0.trans (hb.mono H0.size)
        clear hb
        obtain ⟨cb20, cb21, cb22, cb23, cb24, cb25, cb26, cb27⟩ := b2.cells8
        obtain ⟨cb30, cb31, cb32⟩ := b3.cells3
        go_wp2_with fail
        clear cb20 cb21 cb22 cb23 cb24 cb25 cb26 cb27 cb30 cb31 cb32
        go_returns
        exact ⟨by first | rfl | (simp only [plS, HA.out, HB.out]; rfl), H0⟩
      · have HA := Lib.hid ha
        clear ha
        have HB := Lib.hid hb
        clear hb
        go_enter Tryz.func50, Tryz.ntmps50
        go_wp2_with fail
        obtain ⟨W0, hW, b2, b3, hbW, hszW0⟩ := boxes2 w #[.bool s0, .slice A0 n0 c0, .slice D0 m0 e0, .bool s1, .slice A1 n1 c1, .slice D1 m1 e1, .bool false, .bool false] #[.bool s4, .slice A4 n4 c4, .slice D4 m4 e4] 32 28
        rw [hW]
        clear hW
        replace hq := hq.below hbW
        replace k0 := k0.below hbW
        replace k1 := k1.below hbW
        have H0 := hbW
        clear hbW
        obtain ⟨cb20, cb21, cb22, cb23, cb24, cb25, cb26, cb27⟩ := b2.cells8
        obtain ⟨cb30, cb31, cb32⟩ := b3.cells3
        go_wp2_with fail
        clear cb20 cb21 cb22 cb23 cb24 cb25 cb26 cb27 cb30 cb31 cb32
        refine (rcmp_v k0.rq hq (by omega) (by omega) HA.out).mono ?_
        rintro e w1 ⟨rfl, hb⟩
        replace hq := hq.below hb
        replace k0 := k0.below hb
        replace k1 := k1.below hb
        replace b2 := b2.below hb
        replace b3 := b3.below hb
        replace H0 := H0.trans (hb.mono H0.size)
        clear hb
        obtain ⟨cb20, cb21, cb22, cb23, cb24, cb25, cb26, cb27⟩ := b2.cells8
        obtain ⟨cb30, cb31, cb32⟩ := b3.cells3
        go_wp2_with fail
        clear cb20 cb21 cb22 cb23 cb24 cb25 cb26 cb27 cb30 cb31 cb32
        refine (rcmp_v hq k1.rq (by omega) (by omega) HB.out).mono ?_
        rintro e w2 ⟨rfl, hb⟩
        replace hq := hq.below hb
        replace k0 := k0.below hb
        replace k1 := k1.below hb
        replace b2 := b2.below hb
        replace b3 := b3.below hb
        replace H0 := H0.trans (hb.mono H0.size)
        clear hb
        obtain ⟨cb20, cb21, cb22, cb23, cb24, cb25, cb26, cb27⟩ := b2.cells8
        obtain ⟨cb30, cb31, cb32⟩ := b3.cells3
        go_wp2_with fail
        clear cb20 cb21 cb22 cb23 cb24 cb25 cb26 cb27 cb30 cb31 cb32
        go_returns
        exact ⟨by first | rfl | (simp only [plS, HA.out, HB.out]; rfl), H0⟩
      · have HA := Lib.hid ha
        clear ha
        have HB := Lib.hid hb
        clear hb
        go_enter Tryz.func50, Tryz.ntmps50
        go_wp2_with fail
        obtain ⟨W0, hW, b2, b3, hbW, hszW0⟩ := boxes2 w #[.bool s0, .slice A0 n0 c0, .slice D0 m0 e0, .bool s1, .slice A1 n1 c1, .slice D1 m1 e1, .bool false, .bool false] #[.bool s4, .slice A4 n4 c4, .slice D4 m4 e4] 32 28
        rw [hW]
        clear hW
        replace hq := hq.below hbW
        replace k0 := k0.below hbW
        replace k1 := k1.below hbW
        have H0 := hbW
        clear hbW
        obtain ⟨cb20, cb21, cb22, cb23, cb24, cb25, cb26, cb27⟩ := b2.cells8
        obtain ⟨cb30, cb31, cb32⟩ := b3.cells3
        go_wp2_with fail
        clear cb20 cb21 cb22 cb23 cb24 cb25 cb26 cb27 cb30 cb31 cb32
        refine (rcmp_v k0.rq hq (by omega) (by omega) HA.out).mono ?_
        rintro e w1 ⟨rfl, hb⟩
        replace hq := hq.below hb
        replace k0 := k0.below hb
        replace k1 := k1.below hb
        replace b2 := b2.below hb
        replace b3 := b3.below hb
        replace H0 := H0.trans (hb.mono H0.size)
        clear hb
        obtain ⟨cb20, cb21, cb22, cb23, cb24, cb25, cb26, cb27⟩ := b2.cells8
        obtain ⟨cb30, cb31, cb32⟩ := b3.cells3
        go_wp2_with fail
        clear cb20 cb21 cb22 cb23 cb24 cb25 cb26 cb27 cb30 cb31 cb32
        refine (rcmp_v hq k1.rq (by omega) (by omega) HB.out).mono ?_
        rintro e w2 ⟨rfl, hb⟩
        replace hq := hq.below hb
        replace k0 := k0.below hb
        replace k1 := k1.below hb
        replace b2 := b2.below hb
        replace b3 := b3.below hb
        replace H0 := H0.trans (hb.mono H0.size)
        clear hb
        obtain ⟨cb20, cb21, cb22, cb23, cb24, cb25, cb26, cb27⟩ := b2.cells8
        obtain ⟨cb30, cb31, cb32⟩ := b3.cells3
        go_wp2_with fail
        clear cb20 cb21 cb22 cb23 cb24 cb25 cb26 cb27 cb30 cb31 cb32
        go_returns
        exact ⟨by first | rfl | (simp only [plS, HA.out, HB.out]; rfl), H0⟩
set_option maxRecDepth 100000 in
set_option maxHeartbeats 4000000 in
theorem pclass_v {v : Value} {q : Rat} (hS : SpS w L v l) (hok : OkS l) (hsep : SepS l) (hn : l.length ≤ 4096) (hq : RQ w s4 (.slice A4 n4 c4) (.slice D4 m4 e4) q L0) (hL : L ≤ 1000) (hL0 : L0 ≤ 1000) :
    Calls Tryz.prog 14 #[v, .agg #[.bool s4, .slice A4 n4 c4, .slice D4 m4 e4]] w fun e w' => e = .returned (.tuple #[.int .i64 (clsL l q), .nilIface]) ∧ Below w.heap.size w w' := by
  have HS := Lib.hid hS
  obtain ⟨A, c, rfl, hc1, hc2⟩ := hS.form
  unfold maxLen at hc2
  clear hS
  go_enter Tryz.func14, Tryz.ntmps14
  go_upto_region 1 with fail
  obtain ⟨V0, hV, b3, hbV, hszV⟩ := boxes1 w #[.bool s4, .slice A4 n4 c4, .slice D4 m4 e4] 28
  rw [hV]
  clear hV hszV
  have hq' := hq.below hbV
  go_wp2_with fail
  refine (valid_v (HS.out.below hbV) hok hsep hn (by omega)).mono ?_
  rintro e w1 ⟨rfl, hb⟩
  replace b3 := b3.below hb
  replace hbV := hbV.trans (hb.mono hbV.size)
  clear hb hq' hok hsep
  go_wp2_with fail
  go_loopw [14] (fun t14 wr => ∃ i : Nat, i ≤ l.length ∧ t14 = .int .i64 (i : Int) ∧ Box wr w.heap.size #[.bool s4, .slice A4 n4 c4, .slice D4 m4 e4] 28 ∧ clsL l q = clsL (l.drop i) q ∧ Below w.heap.size w wr) (fun t14 _ => l.length - (intOf t14).toNat)
  case atStart => exact ⟨0, Nat.zero_le _, rfl, b3, rfl, hbV⟩
  case round =>
    clear b3 hbV
    obtain ⟨i, hi, rfl, b3, hcl, H0⟩ := hrel
    have HCL := Lib.hid hcl
    clear hcl
    by_cases hlt : i < l.length
    · obtain ⟨sp, hsp⟩ : ∃ s, l[i]? = some s := ⟨_, List.getElem?_eq_getElem hlt⟩
      obtain ⟨g, o, s0, A0, n0, c0, D0, m0, e0, s1, A1, n1, c1, D1, m1, e1, f0, h0, rfl, cc0, cc1, cc2, cc3, cc4, cc5, cc6, cc7, y0, y1⟩ := (HS.out.below H0).elem hsp
      have hsp' : l[i]? = some sp := hsp
      have HSP := Lib.hid hsp'
      clear hsp hsp'
      obtain ⟨W0, hW, b6, hbW, hsz⟩ := boxes1 wr #[.bool s0, .slice A0 n0 c0, .slice D0 m0 e0, .bool s1, .slice A1 n1 c1, .slice D1 m1 e1, .bool f0, .bool h0] 32
      clear hsz
      have kq := hq.below (H0.trans (hbW.mono H0.size))
      replace b3 := b3.below hbW
      replace y0 := y0.below hbW
      replace y1 := y1.below hbW
      replace H0 := H0.trans (hbW.mono H0.size)
      obtain ⟨x0, x1, x2, x3, x4, x5, x6, x7⟩ := b6.cells8
      obtain ⟨z0, z1, z2⟩ := b3.cells3
      go_wp2_with fail
      clear hW hbW b6 x0 cc0 x1 cc1 x2 cc2 x3 cc3 x4 cc4 x5 cc5 x6 cc6 x7 cc7 z0 z1 z2
      obtain ⟨k, hk⟩ : ∃ k, plS sp q = k := ⟨_, rfl⟩
      have hk3 : k = -1 ∨ k = 0 ∨ k = 1 := by rw [← hk]; exact pl_tri sp q
      have HK := Lib.hid hk
      clear hk
      refine (place_v y0 y1 kq hL hL0).mono ?_
      rintro e w5 ⟨rfl, hb⟩
      replace b3 := b3.below hb
      replace H0 := H0.trans (hb.mono H0.size)
      clear hb y0 y1 kq
      rw [show plS ⟨sp.lo, sp.hi⟩ q = k from HK.out]
      rcases hk3 with rfl | rfl | rfl
      · go_wp2_with fail
        go_returns
        exact ⟨by rw [show clsL l q = 2 from by rw [HCL.out, clsL_some HSP.out (cls_in HK.out)]]; rfl, H0⟩
      · go_wp2_with fail
        go_returns
        exact ⟨by rw [show clsL l q = 1 from by rw [HCL.out, clsL_some HSP.out (cls_on HK.out)]]; rfl, H0⟩
      · go_wp2_with fail
        go_roundw
        case rel => exact ⟨i + 1, by omega, by go_num, b3, by rw [HCL.out, clsL_none HSP.out (cls_out HK.out)], H0⟩
        case measure => simp [intOf]; omega
    · obtain rfl : i = l.length := by omega
      go_wp2_with fail
      go_returns
      exact ⟨by rw [show clsL l q = 0 from by rw [HCL.out, List.drop_length]; rfl]; rfl, H0⟩
theorem pclass_x {v : Value} {q : Rat} {g : Bool} {ts : List Rat} {k : Int} (hk : clsL (spansOf g ts) q = k) (hS : SetV w L v g ts) (hq : RQ w s4 (.slice A4 n4 c4) (.slice D4 m4 e4) q L0) (hn : ts.length ≤ 4000) (hL : L ≤ 1000) (hL0 : L0 ≤ 1000) :
    Calls Tryz.prog 14 #[v, .agg #[.bool s4, .slice A4 n4 c4, .slice D4 m4 e4]] w fun e w' => e = .returned (.tuple #[.int .i64 k, .nilIface]) ∧ Below w.heap.size w w' := by
  rw [← hk]
  exact pclass_v hS.1 (set_ok hS.2) (set_sep hS.2) (by have := set_len g ts; omega) hq hL hL0
set_option maxRecDepth 100000 in
set_option maxHeartbeats 4000000 in
theorem lclass_t (w : World) :
    Calls Tryz.prog 36 #[.bool true] w fun e w' => e = .returned (.int .i64 2) ∧ Below w.heap.size w w' := by
  go_enter Tryz.func36, Tryz.ntmps36
  go_wp2_with fail
  go_returns
  exact ⟨rfl, Below.refl _ _⟩
set_option maxRecDepth 100000 in
set_option maxHeartbeats 4000000 in
theorem lclass_f (w : World) :
    Calls Tryz.prog 36 #[.bool false] w fun e w' => e = .returned (.int .i64 0) ∧ Below w.heap.size w w' := by
  go_enter Tryz.func36, Tryz.ntmps36
  go_wp2_with fail
  go_returns
  exact ⟨rfl, Below.refl _ _⟩
set_option maxRecDepth 100000 in
set_option maxHeartbeats 4000000 in
theorem npart7_v (z : Int) (h0 : -9223372036854775808 ≤ z) (h1 : z ≤ 9223372036854775807) :
    Calls Tryz.prog 34 #[.int .i64 z, .int .i64 7] w fun e w' => ∃ s3 A3 n3 c3 D3 m3 e3, e = .returned (.agg #[.bool s3, .slice A3 n3 c3, .slice D3 m3 e3]) ∧ PQ w' s3 (.slice A3 n3 c3) (.slice D3 m3 e3) (mkRat z 7) (2) ∧ Below w.heap.size w w' := by
  go_enter Tryz.func34, Tryz.ntmps34
  go_wp2_with fail
  obtain ⟨W0, hW, b0, hbW, hszW0⟩ := boxes1 w #[.bool false, .slice none 0 0, .slice none 0 0] 37
  rw [hW]
  clear hW
  have H0 := hbW
  clear hbW
  refine (nint_v z h0 h1 _).mono ?_
  rintro e w1 ⟨s1, A1, n1, c1, rfl, g1, hb⟩
  replace b0 := b0.below hb
  replace H0 := H0.trans (hb.mono H0.size)
  clear hb
  go_wp2_with fail
  refine (word_v 7 (by decide) _).mono ?_
  rintro e w2 ⟨A2, n2, c2, rfl, g2, hb⟩
  replace g1 := g1.below hb
  replace b0 := b0.below hb
  replace H0 := H0.trans (hb.mono H0.size)
  clear hb
  go_wp2_with fail
  refine (nfrac_v g1 g2 (by decide) (by decide)).mono ?_
  rintro e w3 ⟨s3, A3, n3, c3, D3, m3, e3, rfl, g3, hb⟩
  replace g1 := g1.below hb
  replace g2 := g2.below hb
  replace b0 := b0.below hb
  replace H0 := H0.trans (hb.mono H0.size)
  clear hb
  clear g1
  clear g2
  obtain ⟨cb00, yb00, cb01, yb01, cb02, yb02⟩ := b0.cf3
  go_wp2_with fail
  clear cb00 yb00 cb01 yb01 cb02 yb02
  have hg := only_store3 w3 (w.heap.size) (.bool s3) (.slice A3 n3 c3) (.slice D3 m3 e3)
  have hB := b0.stored3 (.bool s3) (.slice A3 n3 c3) (.slice D3 m3 e3)
  generalize hX : (((w3.setCell ⟨w.heap.size, 0, none⟩ (.bool s3)).setCell ⟨w.heap.size, 1, none⟩ (.slice A3 n3 c3)).setCell ⟨w.heap.size, 2, none⟩ (.slice D3 m3 e3)) = X4 at hg hB ⊢
  clear hX
  replace g3 := g3.kept b0 (by simp [notInt]) hg
  replace b0 := hB
  replace H0 := below_only H0 hg (by omega) H0.size
  clear hg hB
  refine bodyPost_ret (ret_numq rfl rfl b0) rfl ?_
  exact ⟨s3, A3, n3, c3, D3, m3, e3, rfl, g3, H0⟩
end
end Go.Proofs.YtfdlkbbepkghmaaGreatDoor
