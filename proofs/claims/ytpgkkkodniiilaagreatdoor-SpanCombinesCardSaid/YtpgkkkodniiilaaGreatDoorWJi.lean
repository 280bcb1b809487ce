/-
  The walk of the law SpanCombines.
-/
import Derived.Test.YtpgkkkodniiilaaGreatDoorWWW
import Derived.Test.YtpgkkkodniiilaaGreatDoorWSpX
import Derived.Test.YtpgkkkodniiilaaGreatDoorWSpU
import Derived.Test.YtpgkkkodniiilaaGreatDoorWCf
import Derived.IntWalk
import Derived.Deep.Cut
import Derived.Test.YtpgkkkodniiilaaGreatDoorWJe
import Derived.Test.YtpgkkkodniiilaaGreatDoorWSpK
import Derived.Test.YtpgkkkodniiilaaGreatDoorWIs
namespace Go.Proofs.YtpgkkkodniiilaaGreatDoor
open Go.RowKit
section
variable {f0 h0 f1 h1 f2 h2 f3 h3 f4 h4 f5 h5 f6 h6 f7 h7 f8 h8 f9 h9 f10 h10 f11 h11 : Bool} {A0 A1 A2 A3 A4 A5 A6 A7 A8 A9 A10 A11 A12 A13 A14 A15 A16 A17 A18 A19 A20 A21 A22 A23 D0 D1 D2 D3 D4 D5 D6 D7 D8 D9 D10 D11 D12 D13 D14 D15 D16 D17 D18 D19 D20 D21 D22 D23 : Option Addr} {n0 n1 n2 n3 n4 n5 n6 n7 n8 n9 n10 n11 n12 n13 n14 n15 n16 n17 n18 n19 n20 n21 n22 n23 c0 c1 c2 c3 c4 c5 c6 c7 c8 c9 c10 c11 c12 c13 c14 c15 c16 c17 c18 c19 c20 c21 c22 c23 m0 m1 m2 m3 m4 m5 m6 m7 m8 m9 m10 m11 m12 m13 m14 m15 m16 m17 m18 m19 m20 m21 m22 m23 e0 e1 e2 e3 e4 e5 e6 e7 e8 e9 e10 e11 e12 e13 e14 e15 e16 e17 e18 e19 e20 e21 e22 e23 : Nat} {s0 s1 s2 s3 s4 s5 s6 s7 s8 s9 s10 s11 s12 s13 s14 s15 s16 s17 s18 s19 s20 s21 s22 s23 : Bool} {q0 q1 q2 q3 q4 q5 q6 q7 : Rat} {z0 z1 z2 z3 z4 z5 z6 z7 z8 z9 z10 z11 : Int} {L L0 L1 x y : Nat} {k : Int} {b : Bool} {w : World}
variable {o0 o1 o2 o3 : Option Rat} {l l' : List Sp}
theorem evT_not (b : Bool) (ts : List Rat) (x : Rat) : evT (!b) ts x = !evT b ts x := by
  induction ts generalizing b with
  | nil => rfl
  | cons t ts ih => unfold evT; split
                    · exact ih (!b)
                    · rfl
end
/-- The set's own membership. -/
theorem mem_mkS {ts : List Rat} (ht : Asc ts) {x : Rat} (hx : x ∉ ts) : memL (mkS none ts) x = evT false ts x ∧ (∀ lo : Option Rat, (∀ a, lo = some a → a < x ∧ ∀ t ∈ ts, a < t) → memL (mkS (some lo) ts) x = evT true ts x) ∧ ∀ a, x < a → (∀ t ∈ ts, a < t) → memL (mkS (some (some a)) ts) x = false := by
  induction ts with
  | nil =>
    refine ⟨rfl, fun lo h => ?_, fun a h _ => ?_⟩
    · cases lo with
      | none => rfl
      | some a => have := (h a rfl).1; simp [mkS, memL, memS, evT, this]
    · have : ¬ a < x := by grind
      simp [mkS, memL, memS, this]
  | cons t ts ih =>
    have hx1 : x ≠ t := fun e => hx (by rw [e]; exact List.mem_cons_self ..)
    have hx2 : x ∉ ts := fun hm => hx (List.mem_cons_of_mem _ hm)
    obtain ⟨i1, i2, i3⟩ := ih ht.2 hx2
    have low : x < t → memL (mkS none ts) x = false := fun h => by
      rw [i1]; exact evT_low fun u hu => by have := ht.1 u hu; grind
    refine ⟨?_, fun lo h => ?_, fun a h1 h2 => ?_⟩
    · show memL (mkS (some (some t)) ts) x = if t < x then evT (!false) ts x else false
      by_cases h : t < x
      · rw [if_pos h]; exact i2 (some t) fun a ha => by injection ha with ha; subst ha; exact ⟨h, ht.1⟩
      · rw [if_neg h]; exact i3 t (by grind) ht.1
    · show memL (⟨lo, some t⟩ :: mkS none ts) x = if t < x then evT (!true) ts x else true
      have hm : memL (⟨lo, some t⟩ :: mkS none ts) x = (memS ⟨lo, some t⟩ x || memL (mkS none ts) x) := by unfold memL; rw [List.any_cons]
      rw [hm]
      by_cases h' : t < x
      · rw [if_pos h', i1]
        have : memS ⟨lo, some t⟩ x = false := by
          have : ¬ x < t := by grind
          simp [memS, this]
        rw [this]; rfl
      · rw [if_neg h', low (by grind)]
        have hxt : x < t := by grind
        cases lo with
        | none => simp [memS, hxt]
        | some a => have := (h a rfl).1; simp [memS, hxt, this]
    · show memL (⟨some a, some t⟩ :: mkS none ts) x = false
      have hm : memL (⟨some a, some t⟩ :: mkS none ts) x = (memS ⟨some a, some t⟩ x || memL (mkS none ts) x) := by unfold memL; rw [List.any_cons]
      have h3 := h2 t (List.mem_cons_self ..)
      rw [hm, low (by grind)]
      have : ¬ a < x := by grind
      simp [memS, this]
theorem mem_set {b : Bool} {ts : List Rat} (ht : Asc ts) {x : Rat} (hx : x ∉ ts) : memL (spansOf b ts) x = evT b ts x := by
  cases b
  · exact (mem_mkS ht hx).1
  · exact (mem_mkS ht hx).2.1 none fun a ha => (by cases ha)
theorem ends_mkS {ts : List Rat} : (∀ s ∈ mkS none ts, (∀ a, s.lo = some a → a ∈ ts) ∧ ∀ b, s.hi = some b → b ∈ ts) ∧ ∀ lo : Option Rat, ∀ s ∈ mkS (some lo) ts, (∀ a, s.lo = some a → lo = some a ∨ a ∈ ts) ∧ ∀ b, s.hi = some b → b ∈ ts := by
  induction ts with
  | nil =>
    refine ⟨fun s h => (by cases h), fun lo s h => ?_⟩
    have := List.mem_singleton.1 h; subst this
    exact ⟨fun a ha => .inl ha, fun b hb => (by cases hb)⟩
  | cons t ts ih =>
    refine ⟨fun s h => ?_, fun lo s h => ?_⟩
    · have := ih.2 (some t) s h
      exact ⟨fun a ha => by
        rcases this.1 a ha with e | e
        · injection e with e; subst e; exact List.mem_cons_self ..
        · exact List.mem_cons_of_mem _ e, fun b hb => List.mem_cons_of_mem _ (this.2 b hb)⟩
    · rcases List.mem_cons.1 h with rfl | h
      · exact ⟨fun a ha => .inl ha, fun b hb => by injection hb with hb; subst hb; exact List.mem_cons_self ..⟩
      · have := ih.1 s h
        exact ⟨fun a ha => .inr (List.mem_cons_of_mem _ (this.1 a ha)), fun b hb => List.mem_cons_of_mem _ (this.2 b hb)⟩
theorem ends_set {b : Bool} {ts : List Rat} : ∀ s ∈ spansOf b ts, (∀ a, s.lo = some a → a ∈ ts) ∧ ∀ b, s.hi = some b → b ∈ ts := by
  cases b
  · exact ends_mkS.1
  · intro s h
    have := ends_mkS.2 none s h
    exact ⟨fun a ha => (this.1 a ha).resolve_left fun e => (by cases e), this.2⟩
section
variable {f0 h0 f1 h1 f2 h2 f3 h3 f4 h4 f5 h5 f6 h6 f7 h7 f8 h8 f9 h9 f10 h10 f11 h11 : Bool} {A0 A1 A2 A3 A4 A5 A6 A7 A8 A9 A10 A11 A12 A13 A14 A15 A16 A17 A18 A19 A20 A21 A22 A23 D0 D1 D2 D3 D4 D5 D6 D7 D8 D9 D10 D11 D12 D13 D14 D15 D16 D17 D18 D19 D20 D21 D22 D23 : Option Addr} {n0 n1 n2 n3 n4 n5 n6 n7 n8 n9 n10 n11 n12 n13 n14 n15 n16 n17 n18 n19 n20 n21 n22 n23 c0 c1 c2 c3 c4 c5 c6 c7 c8 c9 c10 c11 c12 c13 c14 c15 c16 c17 c18 c19 c20 c21 c22 c23 m0 m1 m2 m3 m4 m5 m6 m7 m8 m9 m10 m11 m12 m13 m14 m15 m16 m17 m18 m19 m20 m21 m22 m23 e0 e1 e2 e3 e4 e5 e6 e7 e8 e9 e10 e11 e12 e13 e14 e15 e16 e17 e18 e19 e20 e21 e22 e23 : Nat} {s0 s1 s2 s3 s4 s5 s6 s7 s8 s9 s10 s11 s12 s13 s14 s15 s16 s17 s18 s19 s20 s21 s22 s23 : Bool} {q0 q1 q2 q3 q4 q5 q6 q7 : Rat} {z0 z1 z2 z3 z4 z5 z6 z7 z8 z9 z10 z11 : Int} {L L0 L1 x y : Nat} {k : Int} {w : World}
variable {o0 o1 o2 o3 : Option Rat} {l l' : List Sp}
/-- Two sets in memory with the same numbers are one and the same. -/
theorem SetV.same {v v' : Value} {g g' : Bool} {ts us : List Rat} (h : SetV w L v g ts) (h' : SetV w L0 v' g' us) (l : List Rat) (he : ∀ x, x ∉ l → x ∉ ts → x ∉ us → evT g ts x = evT g' us x) : SetV w L0 v' g ts := by
  obtain ⟨e1, e2⟩ := uniq l h.2 h'.2 he
  subst e1 e2
  exact h'
theorem evT_nil (b : Bool) (x : Rat) : evT b [] x = b := rfl
set_option maxRecDepth 100000 in
set_option maxHeartbeats 4000000 in
theorem ss5_v {b : Nat} (hT : Tape w b) (hb : b < w.heap.size) :
    Calls Tryz.prog 22 #[.pointer (some ⟨b, 0, none⟩), .int .i64 5] w fun e w' => ∃ v, ∃ l : List Sp, e = .returned v ∧ SrS w' 5 v l ∧ OkS l ∧ l.length ≤ 5 ∧ Tape w' b ∧ w.grownBy w' (some b) := by
  go_enter Tryz.func22, Tryz.ntmps22
  go_wp2_with fail
  have G0 : w.grownBy w (some b) := ⟨rfl, rfl, rfl, Nat.le_refl _, fun _ _ _ => rfl⟩
  have hlt := hb
  refine (next_any 6 (by omega) (by omega) hT).mono ?_
  rintro e w0 ⟨r, rfl, hr, hT', hg⟩
  replace hlt := Nat.lt_of_lt_of_le hlt hg.size
  replace G0 := only_trans G0 hg
  clear hT
  have hT := hT'
  clear hT' hg
  go_wp2_with fail
  have HR := Lib.hid hr
  clear hr
  go_loopw [5, 6] (fun t5 t6 wr => ∃ (r' : Nat) (A9 : Option Addr) (c9 : Nat) (css : List (List Value)) (l : List Sp), l.length + r' = r ∧ t6 = .int .i64 (r' : Int) ∧ t5 = .slice A9 css.length c9 ∧ OwnE wr w.heap.size 39 8 (.slice A9 css.length c9) css ∧ SrL wr 5 css l ∧ OkS l ∧ Tape wr b ∧ w.grownBy wr (some b) ∧ b < wr.heap.size) (fun _ t6 _ => (intOf t6).toNat)
  case atStart => exact ⟨r, none, 0, [], [], by simp, rfl, rfl, OwnE.nil _ _ _ _, trivial, fun s h => (by cases h), hT, G0, hlt⟩
  case round =>
    clear hT G0 hlt
    obtain ⟨r', A9, c9, css, l, hlr, rfl, rfl, hown, hall, hok, hT, G0, hlt⟩ := hrel
    have hcl : css.length ≤ 100 := by have h1 := All2.len hall; have := HR.out; omega
    have HOK := Lib.hid hok
    have HLR := Lib.hid hlr
    clear hok
    by_cases hp : 0 < r'
    · obtain ⟨k, rfl⟩ : ∃ k, r' = k + 1 := ⟨r' - 1, by omega⟩
      have el0 : decide ((0 : Int) < ((k + 1 : Nat) : Int)) = true := decide_eq_true (by omega)
      have hw9 : IntKind.i64.wrap (((k + 1 : Nat) : Int) - 1) = (k : Int) := by rw [IntWalk.i64_in _ (by have := HR.out; omega)]; omega
      have hwj : IntKind.i64.wrap (k : Int) = (k : Int) := IntWalk.i64_in _ (by have := HR.out; omega)
      clear hlr hp
      have hnb : ∀ {x : Value} {cs : List (List Value)} {wx : World}, OwnE wx w.heap.size 39 8 x cs → x.ownBlock ≠ some b := fun h => h.ne hb
      go_wp2_with fail
      refine (ts_v hT hlt).mono ?_
      rintro e w2 ⟨sp, s0, A0, n0, c0, D0, m0, e0, s1, A1, n1, c1, D1, m1, e1, f0, h0, rfl, hsp, y0, y1, hT', hg⟩
      replace hown := hown.kept hg (.inr (hnb hown))
      replace hall := hall.tape hT hg
      replace hlt := Nat.lt_of_lt_of_le hlt hg.size
      replace G0 := only_trans G0 hg
      clear hT
      have hT := hT'
      clear hT' hg
      have hq1 : ([.bool s0, .slice A0 n0 c0, .slice D0 m0 e0, .bool s1, .slice A1 n1 c1, .slice D1 m1 e1, .bool f0, .bool h0] : List Value).all (fun u => u.oneCell' && notInt u) = true := by simp [notInt, Value.oneCell']
      have ln1 : css.length ≤ 100000 := by omega
      have lB1 : w.heap.size ≤ w2.heap.size := G0.size
      go_wp2_with (at_builtin; refine wpList_append_row (v := .slice A9 css.length c9) (css := css) rfl _ _ rfl elem_s6 w.heap.size [.bool s0, .slice A0 n0 c0, .slice D0 m0 e0, .bool s1, .slice A1 n1 c1, .slice D1 m1 e1, .bool f0, .bool h0] rfl hown rfl rfl hq1 ln1 lB1 ?_; intro v1 w3 hown1 hg1)
      have hall1 : SrL w3 5 (css ++ [([.bool s0, .slice A0 n0 c0, .slice D0 m0 e0, .bool s1, .slice A1 n1 c1, .slice D1 m1 e1, .bool f0, .bool h0] : List Value)]) (l ++ [sp]) := All2.snoc (hall.own hown hg1) ⟨_, _, _, _, _, _, _, _, _, _, _, _, _, _, _, _, rfl, y0.own hown hg1, y1.own hown hg1⟩
      have hbT := hown.trod hg1 lB1
      replace hT := hT.keep hbT hb
      replace G0 := only_below G0 hbT (Nat.le_refl _)
      replace hlt := Nat.lt_of_lt_of_le hlt hbT.size
      clear hown hall y0 y1 hg1 hbT hq1 ln1 lB1 hcl
      generalize css ++ [([.bool s0, .slice A0 n0 c0, .slice D0 m0 e0, .bool s1, .slice A1 n1 c1, .slice D1 m1 e1, .bool f0, .bool h0] : List Value)] = cs1_ at hown1 hall1
      obtain ⟨A1_, c1_, rfl, hx1, hx2⟩ := hown1.form
      clear hx1 hx2
      go_wp2_with fail
      go_roundw
      case rel => exact ⟨k, _, _, _, l ++ [sp], by have := HLR.out; simp; omega, by first | rfl | rw [hw9], rfl, hown1, hall1, fun s hs => (List.mem_append.1 hs).elim (HOK.out s) (fun h => by have := List.mem_singleton.1 h; subst this; exact hsp), hT, G0, hlt⟩
      case measure => simp [intOf]
    · obtain rfl : r' = 0 := by omega
      have el0 : decide ((0 : Int) < ((0 : Nat) : Int)) = false := by decide
      go_wp2_with fail
      go_ret
      exact ⟨_, l, rfl, ⟨_, hown.read, hall⟩, HOK.out, by have := HLR.out; have := HR.out; omega, hT, G0⟩
end
end Go.Proofs.YtpgkkkodniiilaaGreatDoor
namespace Go.Proofs.YtpgkkkodniiilaaGreatDoor
open Go.RowKit

section
variable {f0 h0 f1 h1 f2 h2 f3 h3 f4 h4 f5 h5 f6 h6 f7 h7 f8 h8 f9 h9 f10 h10 f11 h11 : Bool} {A0 A1 A2 A3 A4 A5 A6 A7 A8 A9 A10 A11 A12 A13 A14 A15 A16 A17 A18 A19 A20 A21 A22 A23 D0 D1 D2 D3 D4 D5 D6 D7 D8 D9 D10 D11 D12 D13 D14 D15 D16 D17 D18 D19 D20 D21 D22 D23 : Option Addr} {n0 n1 n2 n3 n4 n5 n6 n7 n8 n9 n10 n11 n12 n13 n14 n15 n16 n17 n18 n19 n20 n21 n22 n23 c0 c1 c2 c3 c4 c5 c6 c7 c8 c9 c10 c11 c12 c13 c14 c15 c16 c17 c18 c19 c20 c21 c22 c23 m0 m1 m2 m3 m4 m5 m6 m7 m8 m9 m10 m11 m12 m13 m14 m15 m16 m17 m18 m19 m20 m21 m22 m23 e0 e1 e2 e3 e4 e5 e6 e7 e8 e9 e10 e11 e12 e13 e14 e15 e16 e17 e18 e19 e20 e21 e22 e23 : Nat} {s0 s1 s2 s3 s4 s5 s6 s7 s8 s9 s10 s11 s12 s13 s14 s15 s16 s17 s18 s19 s20 s21 s22 s23 : Bool} {q0 q1 q2 q3 q4 q5 q6 q7 : Rat} {z0 z1 z2 z3 z4 z5 z6 z7 z8 z9 z10 z11 : Int} {L L0 L1 x y : Nat} {k : Int} {b : Bool} {w : World}
variable {o0 o1 o2 o3 : Option Rat} {l l' : List Sp}
theorem EndP.tape9 {w' : World} {b : Nat} {s : Bool} {y u : Value} {no : Bool} {o : Option Rat} (h : EndP w L s y u no o) (ht : Tape w b) (hg : w.grownBy w' (some b)) : EndP w' L s y u no o := by
  rcases h with ⟨h1, q, h2, h3⟩ | h
  · exact .inl ⟨h1, q, h2, h3.tape ht hg⟩
  · exact .inr h
theorem SrS.tape {w' : World} {b : Nat} {v : Value} (h : SrS w L v l) (ht : Tape w b) (hg : w.grownBy w' (some b)) : SrS w' L v l := by
  obtain ⟨css, h1, h2⟩ := h
  refine ⟨css, h1.tape ht hg fun cs hcs => ?_, h2.mono fun _ _ ⟨x0, x1, x2, x3, x4, x5, x6, x7, x8, x9, x10, x11, x12, x13, x14, x15, e, k1, k2⟩ => ⟨x0, x1, x2, x3, x4, x5, x6, x7, x8, x9, x10, x11, x12, x13, x14, x15, e, k1.tape9 ht hg, k2.tape9 ht hg⟩⟩
  obtain ⟨q, _, _, _, _, _, _, _, _, _, _, _, _, _, _, _, _, rfl, _⟩ := All2.mem h2 cs hcs
  exact ⟨_, rfl⟩
theorem full_srs {g : Nat} {t : TypeId} (h : Box w g #[.bool false, .slice none 0 0, .slice none 0 0, .bool false, .slice none 0 0, .slice none 0 0, .bool true, .bool true] t) : SrS w L (.slice (some ⟨g, 0, none⟩) 1 1) [⟨none, none⟩] := by
  refine ⟨[[.bool false, .slice none 0 0, .slice none 0 0, .bool false, .slice none 0 0, .slice none 0 0, .bool true, .bool true]], ⟨fun x hx => by have := List.mem_singleton.1 hx; subst this; rfl, _, 1, rfl, Nat.le_refl _, by decide, fun _ => ⟨g, 0, rfl, fun i cs hi j x hx => ?_⟩⟩, ⟨⟨_, _, _, _, _, _, _, _, _, _, _, _, _, _, _, _, rfl, .inr ⟨rfl, rfl⟩, .inr ⟨rfl, rfl⟩⟩, trivial⟩⟩
  cases i with
  | succ i => cases hi
  | zero =>
    injection hi with hi; subst hi
    have h9 := h.cell j x (by simpa using hx)
    simpa using h9
theorem off_set {g : Bool} {t : List Rat} {x : Rat} (hx : x ∉ t) : ∀ s ∈ spansOf g t, offS s x := fun s hs => ⟨fun h => hx ((ends_set s hs).1 x h), fun h => hx ((ends_set s hs).2 x h)⟩
theorem off_ends {l : List Sp} {x : Rat} (hx : x ∉ (tEnds l).map (·.1)) : (∀ e ∈ tEnds l, e.1 ≠ x) ∧ ∀ s ∈ l, offS s x := by
  have h1 : ∀ e ∈ tEnds l, e.1 ≠ x := fun e he h => hx (List.mem_map.2 ⟨e, he, h⟩)
  refine ⟨h1, fun s hs => ⟨fun h => ?_, fun h => ?_⟩⟩
  · exact h1 (x, 1) (List.mem_flatMap.2 ⟨s, hs, by unfold sEnds; rw [h]; exact List.mem_append_left _ (List.mem_singleton.2 rfl)⟩) rfl
  · exact h1 (x, -1) (List.mem_flatMap.2 ⟨s, hs, by unfold sEnds; rw [h]; exact List.mem_append_right _ (List.mem_singleton.2 rfl)⟩) rfl
theorem ref_or {v : Value} {la lb : List Sp} (h : SrS w L v (fromG [] false none (endsT [] (la ++ lb)) ((probesT (endsT [] (la ++ lb))).map (fun q => ((clsL la q : Int) == 2) || ((clsL lb q : Int) == 2))))) : ∃ g ts, SrS w L v (spansOf g ts) ∧ Asc ts ∧ ts.length ≤ 2 * la.length + 2 * lb.length ∧ ∀ x, (∀ s, s ∈ la ∨ s ∈ lb → offS s x) → evT g ts x = (memL la x || memL lb x) := by
  obtain ⟨p, ps, hp, -⟩ := probes_cons (endsT [] (la ++ lb))
  obtain ⟨g, ts, e1, ha, _, hl, hev⟩ := combine_sem (a := la) (b := lb) (fun x y => x || y) hp
  rw [e1] at h
  exact ⟨g, ts, h, ha, hl, hev⟩
theorem ref_and {v : Value} {la lb : List Sp} (h : SrS w L v (fromG [] false none (endsT [] (la ++ lb)) ((probesT (endsT [] (la ++ lb))).map (fun q => ((clsL la q : Int) == 2) && ((clsL lb q : Int) == 2))))) : ∃ g ts, SrS w L v (spansOf g ts) ∧ Asc ts ∧ ts.length ≤ 2 * la.length + 2 * lb.length ∧ ∀ x, (∀ s, s ∈ la ∨ s ∈ lb → offS s x) → evT g ts x = (memL la x && memL lb x) := by
  obtain ⟨p, ps, hp, -⟩ := probes_cons (endsT [] (la ++ lb))
  obtain ⟨g, ts, e1, ha, _, hl, hev⟩ := combine_sem (a := la) (b := lb) (fun x y => x && y) hp
  rw [e1] at h
  exact ⟨g, ts, h, ha, hl, hev⟩
theorem ref_sub {v : Value} {la lb : List Sp} (h : SrS w L v (fromG [] false none (endsT [] (la ++ lb)) ((probesT (endsT [] (la ++ lb))).map (fun q => ((clsL la q : Int) == 2) && !((clsL lb q : Int) == 2))))) : ∃ g ts, SrS w L v (spansOf g ts) ∧ Asc ts ∧ ts.length ≤ 2 * la.length + 2 * lb.length ∧ ∀ x, (∀ s, s ∈ la ∨ s ∈ lb → offS s x) → evT g ts x = (memL la x && !memL lb x) := by
  obtain ⟨p, ps, hp, -⟩ := probes_cons (endsT [] (la ++ lb))
  obtain ⟨g, ts, e1, ha, _, hl, hev⟩ := combine_sem (a := la) (b := lb) (fun x y => x && !y) hp
  rw [e1] at h
  exact ⟨g, ts, h, ha, hl, hev⟩
end
end Go.Proofs.YtpgkkkodniiilaaGreatDoor
namespace Go.Proofs.YtpgkkkodniiilaaGreatDoor
open Go.RowKit

section
variable {f0 h0 f1 h1 f2 h2 f3 h3 f4 h4 f5 h5 f6 h6 f7 h7 f8 h8 f9 h9 f10 h10 f11 h11 : Bool} {A0 A1 A2 A3 A4 A5 A6 A7 A8 A9 A10 A11 A12 A13 A14 A15 A16 A17 A18 A19 A20 A21 A22 A23 D0 D1 D2 D3 D4 D5 D6 D7 D8 D9 D10 D11 D12 D13 D14 D15 D16 D17 D18 D19 D20 D21 D22 D23 : Option Addr} {n0 n1 n2 n3 n4 n5 n6 n7 n8 n9 n10 n11 n12 n13 n14 n15 n16 n17 n18 n19 n20 n21 n22 n23 c0 c1 c2 c3 c4 c5 c6 c7 c8 c9 c10 c11 c12 c13 c14 c15 c16 c17 c18 c19 c20 c21 c22 c23 m0 m1 m2 m3 m4 m5 m6 m7 m8 m9 m10 m11 m12 m13 m14 m15 m16 m17 m18 m19 m20 m21 m22 m23 e0 e1 e2 e3 e4 e5 e6 e7 e8 e9 e10 e11 e12 e13 e14 e15 e16 e17 e18 e19 e20 e21 e22 e23 : Nat} {s0 s1 s2 s3 s4 s5 s6 s7 s8 s9 s10 s11 s12 s13 s14 s15 s16 s17 s18 s19 s20 s21 s22 s23 : Bool} {q0 q1 q2 q3 q4 q5 q6 q7 : Rat} {z0 z1 z2 z3 z4 z5 z6 z7 z8 z9 z10 z11 : Int} {L L0 L1 x y : Nat} {k : Int} {b : Bool} {w : World}
variable {o0 o1 o2 o3 : Option Rat} {l l' : List Sp}
set_option maxRecDepth 100000 in
set_option maxHeartbeats 16000000 in
theorem spancombines_any {v : Value} (HI : Ints w v) :
    Calls Tryz.prog 4 #[v] w fun e w' => e = .returned (.bool true) ∧ Below w.heap.size w w' := by
  go_enter Tryz.func4, Tryz.ntmps4
  go_wp2_with fail
  refine (new_any HI).mono ?_
  rintro e w1 ⟨rfl, hT, H0, hsz⟩
  have hlt : w.heap.size < w1.heap.size := by omega
  clear hsz HI
  go_wp2_with fail
  refine (ss5_v hT hlt).mono ?_
  rintro e w2 ⟨v9_, l9, rfl, s9, o9, n9, hT', hg⟩
  replace hlt := Nat.lt_of_lt_of_le hlt hg.size
  replace H0 := H0.grown hg H0.size (by rintro k hk; injection hk with hk; omega)
  clear hT
  have hT := hT'
  clear hT' hg
  go_wp2_with fail
  refine (smade_v hT hlt).mono ?_
  rintro e w3 ⟨v0_, g0, t0, rfl, h0_, ha0, hl0, hT', hg⟩
  replace s9 := s9.tape hT hg
  replace hlt := Nat.lt_of_lt_of_le hlt hg.size
  replace H0 := H0.grown hg H0.size (by rintro k hk; injection hk with hk; omega)
  clear hT
  have hT := hT'
  clear hT' hg
  go_wp2_with fail
  refine (smade_v hT hlt).mono ?_
  rintro e w4 ⟨v1_, g1, t1, rfl, h1_, ha1, hl1, hT', hg⟩
  replace s9 := s9.tape hT hg
  replace h0_ := h0_.tape hT hg
  replace hlt := Nat.lt_of_lt_of_le hlt hg.size
  replace H0 := H0.grown hg H0.size (by rintro k hk; injection hk with hk; omega)
  clear hT
  have hT := hT'
  clear hT' hg
  clear hT hlt
  go_wp2_with fail
  refine (writeall_v h0_ (by have := set_len g0 t0; omega) (by decide)).mono ?_
  rintro e w5 ⟨y0_, rfl, s0_, hb⟩
  replace s9 := s9.below hb
  replace h0_ := h0_.below hb
  replace h1_ := h1_.below hb
  replace H0 := H0.trans (hb.mono H0.size)
  clear hb
  have k0 : SetV w5 5 y0_ g0 t0 := ⟨s0_, ha0⟩
  clear s0_
  go_wp2_with fail
  refine (writeall_v h1_ (by have := set_len g1 t1; omega) (by decide)).mono ?_
  rintro e w6 ⟨y1_, rfl, s1_, hb⟩
  replace s9 := s9.below hb
  replace h0_ := h0_.below hb
  replace h1_ := h1_.below hb
  replace k0 := k0.below hb
  replace H0 := H0.trans (hb.mono H0.size)
  clear hb
  have k1 : SetV w6 5 y1_ g1 t1 := ⟨s1_, ha1⟩
  clear s1_
  go_wp2_with fail
  refine (writeall_v s9 (by omega) (by decide)).mono ?_
  rintro e w7 ⟨y9_, rfl, p9_, hb⟩
  replace s9 := s9.below hb
  replace h0_ := h0_.below hb
  replace h1_ := h1_.below hb
  replace k0 := k0.below hb
  replace k1 := k1.below hb
  replace H0 := H0.trans (hb.mono H0.size)
  clear hb
  have p9 : SpS w7 5 y9_ l9 := p9_
  clear p9_
  go_wp2_with fail
  refine (join_v p9 o9 (by omega) (by decide) (by decide)).mono ?_
  rintro e w8 ⟨v_j, gj, tj, rfl, k_j, lj, ej, hb⟩
  replace s9 := s9.below hb
  replace h0_ := h0_.below hb
  replace h1_ := h1_.below hb
  replace k0 := k0.below hb
  replace k1 := k1.below hb
  replace p9 := p9.below hb
  replace H0 := H0.trans (hb.mono H0.size)
  clear hb
  clear p9
  have E_j := Lib.hid ej
  clear ej
  go_wp2_with fail
  refine (sunion_v k0 (by omega) k1 (by omega) (by decide) (by decide)).mono ?_
  rintro e w9 ⟨v_u, rfl, ⟨t_u, k_u, -, l_u, e_u⟩, hb⟩
  replace s9 := s9.below hb
  replace h0_ := h0_.below hb
  replace h1_ := h1_.below hb
  replace k0 := k0.below hb
  replace k1 := k1.below hb
  replace k_j := k_j.below hb
  replace H0 := H0.trans (hb.mono H0.size)
  clear hb
  have E_u := Lib.hid e_u
  clear e_u l_u
  go_wp2_with fail
  refine (sinter_v k0 (by omega) k1 (by omega) (by decide) (by decide)).mono ?_
  rintro e w10 ⟨v_i, rfl, ⟨t_i, k_i, -, l_i, e_i⟩, hb⟩
  replace s9 := s9.below hb
  replace h0_ := h0_.below hb
  replace h1_ := h1_.below hb
  replace k0 := k0.below hb
  replace k1 := k1.below hb
  replace k_j := k_j.below hb
  replace k_u := k_u.below hb
  replace H0 := H0.trans (hb.mono H0.size)
  clear hb
  have E_i := Lib.hid e_i
  clear e_i l_i
  go_wp2_with fail
  refine (ssub_v k0 (by omega) k1 (by omega) (by decide) (by decide)).mono ?_
  rintro e w11 ⟨v_d, rfl, ⟨t_d, k_d, -, l_d, e_d⟩, hb⟩
  replace s9 := s9.below hb
  replace h0_ := h0_.below hb
  replace h1_ := h1_.below hb
  replace k0 := k0.below hb
  replace k1 := k1.below hb
  replace k_j := k_j.below hb
  replace k_u := k_u.below hb
  replace k_i := k_i.below hb
  replace H0 := H0.trans (hb.mono H0.size)
  clear hb
  have E_d := Lib.hid e_d
  clear e_d l_d
  go_wp2_with fail
  refine (scompl_v k0 (by omega) (by decide) (by decide)).mono ?_
  rintro e w12 ⟨v_c, rfl, ⟨t_c, k_c, -, l_c, e_c⟩, hb⟩
  replace s9 := s9.below hb
  replace h0_ := h0_.below hb
  replace h1_ := h1_.below hb
  replace k0 := k0.below hb
  replace k1 := k1.below hb
  replace k_j := k_j.below hb
  replace k_u := k_u.below hb
  replace k_i := k_i.below hb
  replace k_d := k_d.below hb
  replace H0 := H0.trans (hb.mono H0.size)
  clear hb
  have E_c := Lib.hid e_c
  clear e_c l_c
  go_wp2_with fail
  clear k0
  clear k1
  refine (known6_any _).mono ?_
  rintro e w13 ⟨rfl, hb⟩
  replace s9 := s9.below hb
  replace h0_ := h0_.below hb
  replace h1_ := h1_.below hb
  replace k_j := k_j.below hb
  replace k_u := k_u.below hb
  replace k_i := k_i.below hb
  replace k_d := k_d.below hb
  replace k_c := k_c.below hb
  replace H0 := H0.trans (hb.mono H0.size)
  clear hb
  go_wp2_with fail
  refine (combine_or s9 (SrS.nil _ 5) (by simp only [List.length_nil]; omega) (by decide)).mono ?_
  rintro e w14 ⟨y_ja, rfl, f_ja, hb⟩
  replace s9 := s9.below hb
  replace h0_ := h0_.below hb
  replace h1_ := h1_.below hb
  replace k_j := k_j.below hb
  replace k_u := k_u.below hb
  replace k_i := k_i.below hb
  replace k_d := k_d.below hb
  replace k_c := k_c.below hb
  replace H0 := H0.trans (hb.mono H0.size)
  clear hb
  obtain ⟨g_ja, t_ja, q_ja, a_ja, m_ja, r_ja⟩ := ref_or f_ja
  have R_ja := Lib.hid r_ja
  have M_ja : Hid (t_ja.length ≤ 100) := Lib.hid (by simp only [List.length_nil] at m_ja; omega)
  clear f_ja r_ja m_ja
  go_wp2_with fail
  refine (writeall_v q_ja (by have := set_len g_ja t_ja; have := M_ja.out; omega) (by decide)).mono ?_
  rintro e w15 ⟨z_ja, rfl, p_ja, hb⟩
  replace s9 := s9.below hb
  replace h0_ := h0_.below hb
  replace h1_ := h1_.below hb
  replace k_j := k_j.below hb
  replace k_u := k_u.below hb
  replace k_i := k_i.below hb
  replace k_d := k_d.below hb
  replace k_c := k_c.below hb
  replace q_ja := q_ja.below hb
  replace H0 := H0.trans (hb.mono H0.size)
  clear hb
  clear q_ja
  have w_ja : SetV w15 5 z_ja g_ja t_ja := ⟨p_ja, a_ja⟩
  have x_ja := k_j.same w_ja ((tEnds l9).map (·.1)) (fun x hx _ _ => by
    obtain ⟨h1, h2⟩ := off_ends hx
    rw [E_j.out x h1 h2, R_ja.out x (fun s h => h.elim (h2 s) (fun h => by cases h))]
    simp [memL])
  clear w_ja p_ja a_ja
  go_wp2_with fail
  refine (sameall_v k_j.1 x_ja.1).mono ?_
  rintro e w16 ⟨rfl, hb⟩
  replace s9 := s9.below hb
  replace h0_ := h0_.below hb
  replace h1_ := h1_.below hb
  replace k_j := k_j.below hb
  replace k_u := k_u.below hb
  replace k_i := k_i.below hb
  replace k_d := k_d.below hb
  replace k_c := k_c.below hb
  replace x_ja := x_ja.below hb
  replace H0 := H0.trans (hb.mono H0.size)
  clear hb
  clear x_ja
  clear k_j
  go_wp2_with fail
  refine (combine_or h0_ h1_ (by have s0 := set_len g0 t0; have s1 := set_len g1 t1; omega) (by decide)).mono ?_
  rintro e w17 ⟨y_ua, rfl, f_ua, hb⟩
  replace s9 := s9.below hb
  replace h0_ := h0_.below hb
  replace h1_ := h1_.below hb
  replace k_u := k_u.below hb
  replace k_i := k_i.below hb
  replace k_d := k_d.below hb
  replace k_c := k_c.below hb
  replace H0 := H0.trans (hb.mono H0.size)
  clear hb
  obtain ⟨g_ua, t_ua, q_ua, a_ua, m_ua, r_ua⟩ := ref_or f_ua
  have R_ua := Lib.hid r_ua
  have M_ua : Hid (t_ua.length ≤ 100) := Lib.hid (by have s0 := set_len g0 t0; have s1 := set_len g1 t1; omega)
  clear f_ua r_ua m_ua
  go_wp2_with fail
  refine (writeall_v q_ua (by have := set_len g_ua t_ua; have := M_ua.out; omega) (by decide)).mono ?_
  rintro e w18 ⟨z_ua, rfl, p_ua, hb⟩
  replace s9 := s9.below hb
  replace h0_ := h0_.below hb
  replace h1_ := h1_.below hb
  replace k_u := k_u.below hb
  replace k_i := k_i.below hb
  replace k_d := k_d.below hb
  replace k_c := k_c.below hb
  replace q_ua := q_ua.below hb
  replace H0 := H0.trans (hb.mono H0.size)
  clear hb
  clear q_ua
  have w_ua : SetV w18 5 z_ua g_ua t_ua := ⟨p_ua, a_ua⟩
  have x_ua := k_u.same w_ua (t0 ++ t1) (fun x hx _ _ => by
    simp only [List.mem_append, not_or] at hx
    have hs : ∀ s, s ∈ spansOf g0 t0 ∨ s ∈ spansOf g1 t1 → offS s x := fun s h => h.elim (off_set hx.1 s) (off_set hx.2 s)
    rw [E_u.out x hx.1 hx.2, R_ua.out x hs, mem_set ha0 hx.1, mem_set ha1 hx.2])
  clear w_ua p_ua a_ua
  go_wp2_with fail
  refine (sameall_v k_u.1 x_ua.1).mono ?_
  rintro e w19 ⟨rfl, hb⟩
  replace s9 := s9.below hb
  replace h0_ := h0_.below hb
  replace h1_ := h1_.below hb
  replace k_u := k_u.below hb
  replace k_i := k_i.below hb
  replace k_d := k_d.below hb
  replace k_c := k_c.below hb
  replace x_ua := x_ua.below hb
  replace H0 := H0.trans (hb.mono H0.size)
  clear hb
  clear x_ua
  clear k_u
  go_wp2_with fail
  refine (combine_and h0_ h1_ (by have s0 := set_len g0 t0; have s1 := set_len g1 t1; omega) (by decide)).mono ?_
  rintro e w20 ⟨y_ia, rfl, f_ia, hb⟩
  replace s9 := s9.below hb
  replace h0_ := h0_.below hb
  replace h1_ := h1_.below hb
  replace k_i := k_i.below hb
  replace k_d := k_d.below hb
  replace k_c := k_c.below hb
  replace H0 := H0.trans (hb.mono H0.size)
  clear hb
  obtain ⟨g_ia, t_ia, q_ia, a_ia, m_ia, r_ia⟩ := ref_and f_ia
  have R_ia := Lib.hid r_ia
  have M_ia : Hid (t_ia.length ≤ 100) := Lib.hid (by have s0 := set_len g0 t0; have s1 := set_len g1 t1; omega)
  clear f_ia r_ia m_ia
  go_wp2_with fail
  refine (writeall_v q_ia (by have := set_len g_ia t_ia; have := M_ia.out; omega) (by decide)).mono ?_
  rintro e w21 ⟨z_ia, rfl, p_ia, hb⟩
  replace s9 := s9.below hb
  replace h0_ := h0_.below hb
  replace h1_ := h1_.below hb
  replace k_i := k_i.below hb
  replace k_d := k_d.below hb
  replace k_c := k_c.below hb
  replace q_ia := q_ia.below hb
  replace H0 := H0.trans (hb.mono H0.size)
  clear hb
  clear q_ia
  have w_ia : SetV w21 5 z_ia g_ia t_ia := ⟨p_ia, a_ia⟩
  have x_ia := k_i.same w_ia (t0 ++ t1) (fun x hx _ _ => by
    simp only [List.mem_append, not_or] at hx
    have hs : ∀ s, s ∈ spansOf g0 t0 ∨ s ∈ spansOf g1 t1 → offS s x := fun s h => h.elim (off_set hx.1 s) (off_set hx.2 s)
    rw [E_i.out x hx.1 hx.2, R_ia.out x hs, mem_set ha0 hx.1, mem_set ha1 hx.2])
  clear w_ia p_ia a_ia
  go_wp2_with fail
  refine (sameall_v k_i.1 x_ia.1).mono ?_
  rintro e w22 ⟨rfl, hb⟩
  replace s9 := s9.below hb
  replace h0_ := h0_.below hb
  replace h1_ := h1_.below hb
  replace k_i := k_i.below hb
  replace k_d := k_d.below hb
  replace k_c := k_c.below hb
  replace x_ia := x_ia.below hb
  replace H0 := H0.trans (hb.mono H0.size)
  clear hb
  clear x_ia
  clear k_i
  go_wp2_with fail
  refine (combine_sub h0_ h1_ (by have s0 := set_len g0 t0; have s1 := set_len g1 t1; omega) (by decide)).mono ?_
  rintro e w23 ⟨y_da, rfl, f_da, hb⟩
  replace s9 := s9.below hb
  replace h0_ := h0_.below hb
  replace h1_ := h1_.below hb
  replace k_d := k_d.below hb
  replace k_c := k_c.below hb
  replace H0 := H0.trans (hb.mono H0.size)
  clear hb
  obtain ⟨g_da, t_da, q_da, a_da, m_da, r_da⟩ := ref_sub f_da
  have R_da := Lib.hid r_da
  have M_da : Hid (t_da.length ≤ 100) := Lib.hid (by have s0 := set_len g0 t0; have s1 := set_len g1 t1; omega)
  clear f_da r_da m_da
  go_wp2_with fail
  refine (writeall_v q_da (by have := set_len g_da t_da; have := M_da.out; omega) (by decide)).mono ?_
  rintro e w24 ⟨z_da, rfl, p_da, hb⟩
  replace s9 := s9.below hb
  replace h0_ := h0_.below hb
  replace h1_ := h1_.below hb
  replace k_d := k_d.below hb
  replace k_c := k_c.below hb
  replace q_da := q_da.below hb
  replace H0 := H0.trans (hb.mono H0.size)
  clear hb
  clear q_da
  have w_da : SetV w24 5 z_da g_da t_da := ⟨p_da, a_da⟩
  have x_da := k_d.same w_da (t0 ++ t1) (fun x hx _ _ => by
    simp only [List.mem_append, not_or] at hx
    have hs : ∀ s, s ∈ spansOf g0 t0 ∨ s ∈ spansOf g1 t1 → offS s x := fun s h => h.elim (off_set hx.1 s) (off_set hx.2 s)
    rw [E_d.out x hx.1 hx.2, R_da.out x hs, mem_set ha0 hx.1, mem_set ha1 hx.2, evT_not])
  clear w_da p_da a_da
  go_wp2_with fail
  refine (sameall_v k_d.1 x_da.1).mono ?_
  rintro e w25 ⟨rfl, hb⟩
  replace s9 := s9.below hb
  replace h0_ := h0_.below hb
  replace h1_ := h1_.below hb
  replace k_d := k_d.below hb
  replace k_c := k_c.below hb
  replace x_da := x_da.below hb
  replace H0 := H0.trans (hb.mono H0.size)
  clear hb
  clear x_da
  clear k_d
  go_wp2_with fail
  refine (full_v _).mono ?_
  rintro e w26 ⟨rfl, hb⟩
  replace s9 := s9.below hb
  replace h0_ := h0_.below hb
  replace h1_ := h1_.below hb
  replace k_c := k_c.below hb
  replace H0 := H0.trans (hb.mono H0.size)
  clear hb
  go_wp2_with fail
  obtain ⟨W27, hW, bf, hbW, hszW27⟩ := boxes1 w26 #[.bool false, .slice none 0 0, .slice none 0 0, .bool false, .slice none 0 0, .slice none 0 0, .bool true, .bool true] 39
  rw [hW]
  clear hW
  replace s9 := s9.below hbW
  replace h0_ := h0_.below hbW
  replace h1_ := h1_.below hbW
  replace k_c := k_c.below hbW
  replace H0 := H0.trans (hbW.mono H0.size)
  clear hbW
  clear hszW27
  have sf := full_srs (L := 5) bf
  clear bf
  refine (combine_sub sf h0_ (by simp only [List.length_singleton]; have s0 := set_len g0 t0; omega) (by decide)).mono ?_
  rintro e w28 ⟨y_ca, rfl, f_ca, hb⟩
  replace s9 := s9.below hb
  replace h0_ := h0_.below hb
  replace h1_ := h1_.below hb
  replace k_c := k_c.below hb
  replace sf := sf.below hb
  replace H0 := H0.trans (hb.mono H0.size)
  clear hb
  obtain ⟨g_ca, t_ca, q_ca, a_ca, m_ca, r_ca⟩ := ref_sub f_ca
  have R_ca := Lib.hid r_ca
  have M_ca : Hid (t_ca.length ≤ 100) := Lib.hid (by simp only [List.length_singleton] at m_ca; have s0 := set_len g0 t0; omega)
  clear f_ca r_ca m_ca
  go_wp2_with fail
  refine (writeall_v q_ca (by have := set_len g_ca t_ca; have := M_ca.out; omega) (by decide)).mono ?_
  rintro e w29 ⟨z_ca, rfl, p_ca, hb⟩
  replace s9 := s9.below hb
  replace h0_ := h0_.below hb
  replace h1_ := h1_.below hb
  replace k_c := k_c.below hb
  replace sf := sf.below hb
  replace q_ca := q_ca.below hb
  replace H0 := H0.trans (hb.mono H0.size)
  clear hb
  clear q_ca
  have w_ca : SetV w29 5 z_ca g_ca t_ca := ⟨p_ca, a_ca⟩
  have x_ca := k_c.same w_ca (t0) (fun x hx _ _ => by
    have hs : ∀ s, s ∈ [(⟨none, none⟩ : Sp)] ∨ s ∈ spansOf g0 t0 → offS s x := fun s h => h.elim (fun h => by have := List.mem_singleton.1 h; subst this; exact ⟨fun h => (by cases h), fun h => (by cases h)⟩) (off_set hx s)
    rw [E_c.out x hx (by intro h; cases h), R_ca.out x hs, mem_set ha0 hx, evT_nil, Bool.or_false, evT_not]
    rfl)
  clear w_ca p_ca a_ca
  go_wp2_with fail
  refine (sameall_v k_c.1 x_ca.1).mono ?_
  rintro e w30 ⟨rfl, hb⟩
  replace s9 := s9.below hb
  replace h0_ := h0_.below hb
  replace h1_ := h1_.below hb
  replace k_c := k_c.below hb
  replace sf := sf.below hb
  replace x_ca := x_ca.below hb
  replace H0 := H0.trans (hb.mono H0.size)
  clear hb
  clear x_ca
  clear k_c
  go_wp2_with fail
  go_returns
  exact ⟨rfl, H0⟩
end
end Go.Proofs.YtpgkkkodniiilaaGreatDoor
