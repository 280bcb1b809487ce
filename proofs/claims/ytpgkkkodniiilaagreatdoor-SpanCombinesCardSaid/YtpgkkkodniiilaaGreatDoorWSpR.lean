/-
  The reference's From.
-/
import Derived.Test.YtpgkkkodniiilaaGreatDoorWSq
import Derived.Test.YtpgkkkodniiilaaGreatDoorWPP
import Derived.IntWalk
import Derived.Deep.Cut
namespace Go.Proofs.YtpgkkkodniiilaaGreatDoor
open List (getElem_toArray getElem_cons_succ getElem_cons_zero setIfInBounds_toArray set_cons_zero set_cons_succ)
open Go.RowKit
section
variable {f0 h0 f1 h1 f2 h2 f3 h3 f4 h4 f5 h5 f6 h6 f7 h7 f8 h8 f9 h9 f10 h10 f11 h11 : Bool} {A0 A1 A9 A10 A11 D0 D1 D10 D11 : Option Addr} {n0 n1 n10 n11 c0 c1 c9 c10 c11 m0 m1 m10 m11 e0 e1 e2 e10 e11 : Nat} {s0 s1 s2 s6 s10 s11 : Bool} {q0 q1 q2 q3 q4 q5 q6 q7 : Rat} {z0 z1 z2 z3 z4 z5 z6 z7 z8 z9 z10 z11 : Int} {L L0 L1 x y : Nat} {k : Int} {b : Bool} {w : World}
variable {o0 o1 o2 o3 : Option Rat} {l l' : List Sp}
/-- A list of words in memory. -/
def MS (w : World) (v : Value) (ms : List Bool) : Prop := ReadR w 1 v (ms.map fun m => [Value.bool m])
theorem MS.form {v : Value} {ms : List Bool} (h : MS w v ms) : ∃ A c, v = .slice A ms.length c ∧ ms.length ≤ c ∧ c ≤ maxLen := by
  have := ReadR.shape h
  rwa [List.length_map] at this
theorem MS.elem {A : Option Addr} {n c i : Nat} {ms : List Bool} {m : Bool} (h : MS w (.slice A n c) ms) (hi : ms[i]? = some m) : ∃ g o, A = some ⟨g, o, none⟩ ∧ w.cell? ⟨g, o + i, none⟩ = some (.bool m) := by
  obtain ⟨_, A', c', e1, _, _, h5⟩ := h
  injection e1 with e1
  subst e1
  obtain ⟨g, o, e2, h6⟩ := h5 (by rintro h0; have h1 := congrArg List.length h0; have := (List.getElem?_eq_some_iff.1 hi).1; simp at h1; rw [h1] at this; simp at this)
  refine ⟨g, o, e2, ?_⟩
  have := h6 i [.bool m] (by rw [List.getElem?_map, hi]; rfl) 0 _ rfl
  rwa [Nat.mul_one, Nat.add_zero] at this
theorem from_f {out : List Sp} {p : Bool} {lo : Option Rat} {cs : List Rat} {ms : List Bool} {i : Nat} (h : ms[i]? = some false) : fromG out p lo (cs.drop i) (ms.drop i) = fromG out false cs[i]? (cs.drop (i + 1)) (ms.drop (i + 1)) := by
  have hi := (List.getElem?_eq_some_iff.1 h).1
  rw [List.drop_eq_getElem_cons hi, (List.getElem?_eq_some_iff.1 h).2]
  cases p <;> rw [fromG, List.head?_drop, List.tail_drop]
theorem from_tf {out : List Sp} {lo : Option Rat} {cs : List Rat} {ms : List Bool} {i : Nat} (h : ms[i]? = some true) : fromG out false lo (cs.drop i) (ms.drop i) = fromG (out ++ [⟨lo, cs[i]?⟩]) true cs[i]? (cs.drop (i + 1)) (ms.drop (i + 1)) := by
  have hi := (List.getElem?_eq_some_iff.1 h).1
  rw [List.drop_eq_getElem_cons hi, (List.getElem?_eq_some_iff.1 h).2]
  rw [fromG, List.head?_drop, List.tail_drop]
theorem from_tt {out : List Sp} {s : Sp} {lo : Option Rat} {cs : List Rat} {ms : List Bool} {i : Nat} (h : ms[i]? = some true) : fromG (out ++ [s]) true lo (cs.drop i) (ms.drop i) = fromG (out ++ [⟨s.lo, cs[i]?⟩]) true cs[i]? (cs.drop (i + 1)) (ms.drop (i + 1)) := by
  have hi := (List.getElem?_eq_some_iff.1 h).1
  rw [List.drop_eq_getElem_cons hi, (List.getElem?_eq_some_iff.1 h).2]
  rw [fromG, List.head?_drop, List.tail_drop, List.dropLast_concat, List.getLast?_concat]
  rfl
theorem SrL.kept {w' : World} {g : Nat} {xs : Array Value} {t : TypeId} {css : List (List Value)} (h : SrL w L css l) (hx : Box w g xs t) (hc : xs.all notInt = true) (hg : w.grownBy w' (some g)) : SrL w' L css l := (firm_srl L css l).kept h hx hc hg
theorem last_of {α : Type} {l : List α} (h : l ≠ []) : ∃ m a, l = m ++ [a] := ⟨_, _, (List.dropLast_concat_getLast h).symm⟩
set_option maxRecDepth 100000 in
set_option maxHeartbeats 4000000 in
theorem from_v {v vm : Value} {cs : List Rat} {ms : List Bool} (hC : QS w L v cs) (hM : MS w vm ms) (hlen : ms.length = cs.length + 1) (hln : cs.length ≤ 90000) :
    Calls Tryz.prog 68 #[v, vm] w fun e w' => ∃ y, e = .returned y ∧ SrS w' L y (fromG [] false none cs ms) ∧ Below w.heap.size w w' := by
  obtain ⟨A, c, rfl, hc1, hc2⟩ := hC.form
  obtain ⟨A', c', rfl, hc3, hc4⟩ := hM.form
  unfold maxLen at hc2 hc4
  obtain ⟨n, hn⟩ : ∃ n, cs.length = n := ⟨_, rfl⟩
  obtain ⟨nm, hnm⟩ : ∃ n, ms.length = n := ⟨_, rfl⟩
  have HN := Lib.hid hn
  have HN2 := Lib.hid hnm
  have HL : Hid (nm = n + 1) := Lib.hid (by omega)
  rw [hn] at hC hc1 hln ⊢
  rw [hnm] at hM hc3 ⊢
  clear hlen hn hnm
  have HQ := Lib.hid hC
  have HMS := Lib.hid hM
  clear hC hM
  go_enter Tryz.func68, Tryz.ntmps68
  go_wp2_with fail
  go_loopw [5, 12] (fun t5 t12 wr => ∃ (i : Nat) (A9 : Option Addr) (c9 : Nat) (css : List (List Value)) (out : List Sp) (p : Bool) (lo : Option Rat), i ≤ nm ∧ t12 = .int .i64 (i : Int) ∧ t5 = .slice A9 css.length c9 ∧ OwnE wr w.heap.size 39 8 (.slice A9 css.length c9) css ∧ SrL wr L css out ∧ out.length ≤ i ∧ fromG out p lo (cs.drop i) (ms.drop i) = fromG [] false none cs ms ∧ ((i = 0 ∧ p = false ∧ lo = none) ∨ ∃ j, i = j + 1 ∧ ms[j]? = some p ∧ lo = cs[j]?) ∧ (p = true → out ≠ []) ∧ Below w.heap.size w wr) (fun _ t12 _ => nm - (intOf t12).toNat)
  case atStart => exact ⟨0, none, 0, [], [], false, none, Nat.zero_le _, rfl, rfl, OwnE.nil _ _ _ _, trivial, Nat.le_refl _, rfl, .inl ⟨rfl, rfl, rfl⟩, fun h => (by cases h), Below.refl _ _⟩
  case round =>
    obtain ⟨i, A9, c9, css, out, p, lo, hi, rfl, rfl, hown, hall, hol, hG, hpre, hpo, H0⟩ := hrel
    have HG := Lib.hid hG
    have HOL := Lib.hid hol
    have hcl : css.length ≤ i := by have h1 := All2.len hall; omega
    clear hG hol
    by_cases hlt : i < nm
    · obtain ⟨m0, hmi⟩ : ∃ m, ms[i]? = some m := ⟨_, List.getElem?_eq_getElem (by have := HN2.out; omega)⟩
      cases m0
      · have HM1 := Lib.hid hmi
        obtain ⟨gm, om, em, cm⟩ := HMS.out.elem hmi
        subst em
        have bm : CellF w _ _ := cm
        clear cm hmi hpre hpo
        have cm := (bm.below H0).eq
        have HGN : Hid (_ = _) := Lib.hid ((from_f HM1.out).symm.trans HG.out)
        go_wp2_with fail
        go_roundw
        case rel => exact ⟨i + 1, _, _, _, out, false, _, by omega, by go_num, rfl, hown, hall, by have := HOL.out; omega, HGN.out, .inr ⟨_, rfl, HM1.out, rfl⟩, fun h => (by cases h), H0⟩
        case measure => simp [intOf]; omega
      · rcases hpre with ⟨hij, rfl, hlo⟩ | ⟨j, hij, hmj, hlo⟩
        · clear hpo
          subst hlo
          have hlo : True := trivial
          by_cases hn0 : i < n
          · have HIJ := Lib.hid hij
            clear hij
            have HM1 := Lib.hid hmi
            obtain ⟨gm, om, em, cm⟩ := HMS.out.elem hmi
            subst em
            have bm : CellF w _ _ := cm
            clear cm hmi
            obtain ⟨qb, hqb⟩ : ∃ s, cs[i]? = some s := ⟨_, List.getElem?_eq_getElem (by have := HN.out; omega)⟩
            have HHI := Lib.hid hqb
            obtain ⟨g1, o1, s1, A1, n1, c1, D1, m1, e1, eb, cd0, cd1, cd2, khi⟩ := HQ.out.elem hqb
            subst eb
            have br0 : CellF w _ _ := cd0
            have br1 : CellF w _ _ := cd1
            have br2 : CellF w _ _ := cd2
            clear cd0 cd1 cd2 hqb
            replace khi := khi.below H0
            have el : decide ((i : Int) < (nm : Int)) = true := decide_eq_true (by omega)
            have q1_ : ((i : Int) == 0) = true := by rw [HIJ.out]; rfl
            have q2_ : decide ((0 : Int) < (i : Int)) = false := by rw [HIJ.out]; decide
            have q3_ : ((i : Int) == (n : Int)) = false := by rw [beq_eq_false_iff_ne]; omega
            have q4_ : decide ((i : Int) < (n : Int)) = true := by exact decide_eq_true (by omega)
            have hip : ¬ 0 < i := by have := HIJ.out; omega
            have lwr : w.heap.size ≤ wr.heap.size := H0.size
            have cm := (bm.below H0).eq
            go_upto_region 7 with fail
            clear cm
            have hn8 := hown.ne' (Nat.le_refl _)
            obtain ⟨W100, hW, b8, hbW, hszW100⟩ := boxes1 wr #[.bool false, .slice none 0 0, .slice none 0 0, .bool false, .slice none 0 0, .slice none 0 0, .bool true, .bool false] 39
            rw [hW]
            clear hW
            replace khi := khi.below hbW
            replace hown := hown.below hbW
            replace hall := hall.below hbW
            replace H0 := H0.trans (hbW.mono H0.size)
            clear hbW
            clear hszW100
            go_upto_region 9 with fail
            have dd0 := (br0.below H0).eq
            have dd1 := (br1.below H0).eq
            have dd2 := (br2.below H0).eq
            obtain ⟨cb80, yb80, cb81, yb81, cb82, yb82, cb83, yb83, cb84, yb84, cb85, yb85, cb86, yb86, cb87, yb87⟩ := b8.cf8
            go_upto_region 11 with fail
            clear cb80 yb80 cb81 yb81 cb82 yb82 cb83 yb83 cb84 yb84 cb85 yb85 cb86 yb86 cb87 yb87
            clear dd0 dd1 dd2
            obtain ⟨cb80, yb80, cb81, yb81, cb82, yb82, cb83, yb83, cb84, yb84, cb85, yb85, cb86, yb86, cb87, yb87⟩ := b8.cf8
            clear cb80 yb80 cb81 yb81 cb82 yb82 cb83 yb83 cb84 yb84 cb85 yb85 cb86 yb86 cb87 yb87
            have hg : World.grownBy W100 (((W100.setCell ⟨wr.heap.size, 3, none⟩ (.bool s1)).setCell ⟨wr.heap.size, 4, none⟩ (.slice A1 n1 c1)).setCell ⟨wr.heap.size, 5, none⟩ (.slice D1 m1 e1)) (some (wr.heap.size)) := only_trans (only_trans (only_setCell _ ⟨wr.heap.size, 3, none⟩ (.bool s1)) (only_setCell _ ⟨wr.heap.size, 4, none⟩ (.slice A1 n1 c1))) (only_setCell _ ⟨wr.heap.size, 5, none⟩ (.slice D1 m1 e1))
            have hB : Box (((W100.setCell ⟨wr.heap.size, 3, none⟩ (.bool s1)).setCell ⟨wr.heap.size, 4, none⟩ (.slice A1 n1 c1)).setCell ⟨wr.heap.size, 5, none⟩ (.slice D1 m1 e1)) (wr.heap.size) #[.bool false, .slice none 0 0, .slice none 0 0, .bool s1, .slice A1 n1 c1, .slice D1 m1 e1, .bool true, .bool false] 39 := (Box.step (Box.step (Box.step b8 3 (.bool s1)) 4 (.slice A1 n1 c1)) 5 (.slice D1 m1 e1))
            generalize hX : (((W100.setCell ⟨wr.heap.size, 3, none⟩ (.bool s1)).setCell ⟨wr.heap.size, 4, none⟩ (.slice A1 n1 c1)).setCell ⟨wr.heap.size, 5, none⟩ (.slice D1 m1 e1)) = X101 at hg hB ⊢
            clear hX
            replace khi := khi.kept b8 (by simp [notInt]) hg
            replace hall := hall.kept b8 (by simp [notInt]) hg
            replace hown := hown.box b8 hg hn8
            replace b8 := hB
            replace H0 := below_only H0 hg (by omega) H0.size
            clear hg hB
            obtain ⟨cb80, cb81, cb82, cb83, cb84, cb85, cb86, cb87⟩ := b8.cells8
            have hq1 : ([.bool false, .slice none 0 0, .slice none 0 0, .bool s1, .slice A1 n1 c1, .slice D1 m1 e1, .bool true, .bool false] : List Value).all (fun u => u.oneCell' && notInt u) = true := by simp [notInt, Value.oneCell']
            have ln1 : css.length ≤ 100000 := by have := HL.out; omega
            have lB1 : w.heap.size ≤ X101.heap.size := H0.size
            go_wp2_with (at_builtin; refine wpList_append_row (v := .slice A9 css.length c9) (css := css) rfl _ _ rfl elem_s6 w.heap.size [.bool false, .slice none 0 0, .slice none 0 0, .bool s1, .slice A1 n1 c1, .slice D1 m1 e1, .bool true, .bool false] rfl hown rfl rfl hq1 ln1 lB1 ?_; intro v1 w3 hown1 hg1)
            clear cb80 cb81 cb82 cb83 cb84 cb85 cb86 cb87
            have hownN := hown1
            clear hown1
            have hallN : SrL w3 L (css ++ [([.bool false, .slice none 0 0, .slice none 0 0, .bool s1, .slice A1 n1 c1, .slice D1 m1 e1, .bool true, .bool false] : List Value)]) (out ++ [⟨none, some qb⟩]) := All2.snoc (hall.own hown hg1) ⟨_, _, _, _, _, _, _, _, _, _, _, _, _, _, _, _, rfl, .inr ⟨rfl, rfl⟩, .inl ⟨rfl, _, rfl, khi.own hown hg1⟩⟩
            replace H0 := H0.trans (hown.trod hg1 lB1)
            clear hown hall hg1 b8 hn8 khi
            generalize css ++ [([.bool false, .slice none 0 0, .slice none 0 0, .bool s1, .slice A1 n1 c1, .slice D1 m1 e1, .bool true, .bool false] : List Value)] = cs1_ at hownN hallN
            obtain ⟨A1_, c1_, rfl, hx1, hx2⟩ := hownN.form
            clear hx1 hx2
            have HGL := Lib.hid hlo
            clear hlo
            have hGN := HG.out
            rw [from_tf HM1.out, HHI.out] at hGN
            have HGN := Lib.hid hGN
            clear hGN
            go_wp2_with fail
            go_roundw
            case rel => exact ⟨i + 1, _, _, _, _, true, _, by omega, by go_num, rfl, hownN, hallN, by have h1 := HOL.out; simp; omega, HGN.out, .inr ⟨i, rfl, HM1.out, HHI.out.symm⟩, fun _ => by simp, H0⟩
            case measure => simp [intOf]; omega
          · have HIJ := Lib.hid hij
            clear hij
            have HM1 := Lib.hid hmi
            obtain ⟨gm, om, em, cm⟩ := HMS.out.elem hmi
            subst em
            have bm : CellF w _ _ := cm
            clear cm hmi
            have HHI : Hid (cs[i]? = none) := Lib.hid (List.getElem?_eq_none (by have := HN.out; omega))
            have el : decide ((i : Int) < (nm : Int)) = true := decide_eq_true (by omega)
            have q1_ : ((i : Int) == 0) = true := by rw [HIJ.out]; rfl
            have q2_ : decide ((0 : Int) < (i : Int)) = false := by rw [HIJ.out]; decide
            have q3_ : ((i : Int) == (n : Int)) = true := by rw [beq_iff_eq]; have := HL.out; omega
            have q4_ : decide ((i : Int) < (n : Int)) = false := by rw [decide_eq_false_iff_not]; omega
            have hip : ¬ 0 < i := by have := HIJ.out; omega
            have lwr : w.heap.size ≤ wr.heap.size := H0.size
            have cm := (bm.below H0).eq
            go_upto_region 7 with fail
            clear cm
            have hn8 := hown.ne' (Nat.le_refl _)
            obtain ⟨W100, hW, b8, hbW, hszW100⟩ := boxes1 wr #[.bool false, .slice none 0 0, .slice none 0 0, .bool false, .slice none 0 0, .slice none 0 0, .bool true, .bool true] 39
            rw [hW]
            clear hW
            replace hown := hown.below hbW
            replace hall := hall.below hbW
            replace H0 := H0.trans (hbW.mono H0.size)
            clear hbW
            clear hszW100
            go_upto_region 9 with fail
            go_upto_region 11 with fail
            obtain ⟨cb80, cb81, cb82, cb83, cb84, cb85, cb86, cb87⟩ := b8.cells8
            have hq1 : ([.bool false, .slice none 0 0, .slice none 0 0, .bool false, .slice none 0 0, .slice none 0 0, .bool true, .bool true] : List Value).all (fun u => u.oneCell' && notInt u) = true := by simp [notInt, Value.oneCell']
            have ln1 : css.length ≤ 100000 := by have := HL.out; omega
            have lB1 : w.heap.size ≤ W100.heap.size := H0.size
            go_wp2_with (at_builtin; refine wpList_append_row (v := .slice A9 css.length c9) (css := css) rfl _ _ rfl elem_s6 w.heap.size [.bool false, .slice none 0 0, .slice none 0 0, .bool false, .slice none 0 0, .slice none 0 0, .bool true, .bool true] rfl hown rfl rfl hq1 ln1 lB1 ?_; intro v1 w3 hown1 hg1)
            clear cb80 cb81 cb82 cb83 cb84 cb85 cb86 cb87
            have hownN := hown1
            clear hown1
            have hallN : SrL w3 L (css ++ [([.bool false, .slice none 0 0, .slice none 0 0, .bool false, .slice none 0 0, .slice none 0 0, .bool true, .bool true] : List Value)]) (out ++ [⟨none, none⟩]) := All2.snoc (hall.own hown hg1) ⟨_, _, _, _, _, _, _, _, _, _, _, _, _, _, _, _, rfl, .inr ⟨rfl, rfl⟩, .inr ⟨rfl, rfl⟩⟩
            replace H0 := H0.trans (hown.trod hg1 lB1)
            clear hown hall hg1 b8 hn8 
            generalize css ++ [([.bool false, .slice none 0 0, .slice none 0 0, .bool false, .slice none 0 0, .slice none 0 0, .bool true, .bool true] : List Value)] = cs1_ at hownN hallN
            obtain ⟨A1_, c1_, rfl, hx1, hx2⟩ := hownN.form
            clear hx1 hx2
            have HGL := Lib.hid hlo
            clear hlo
            have hGN := HG.out
            rw [from_tf HM1.out, HHI.out] at hGN
            have HGN := Lib.hid hGN
            clear hGN
            go_wp2_with fail
            go_roundw
            case rel => exact ⟨i + 1, _, _, _, _, true, _, by omega, by go_num, rfl, hownN, hallN, by have h1 := HOL.out; simp; omega, HGN.out, .inr ⟨i, rfl, HM1.out, HHI.out.symm⟩, fun _ => by simp, H0⟩
            case measure => simp [intOf]; omega
        · by_cases hn0 : i < n
          · cases p
            · have HIJ := Lib.hid hij
              clear hij
              have HM1 := Lib.hid hmi
              obtain ⟨gm, om, em, cm⟩ := HMS.out.elem hmi
              subst em
              have bm : CellF w _ _ := cm
              clear cm hmi
              obtain ⟨gm', om', em', cm'⟩ := HMS.out.elem hmj
              injection em' with em'
              injection em' with em1 em2
              subst em1 em2
              have bmj : CellF w _ _ := cm'
              clear cm' hmj
              obtain ⟨qa, hqa⟩ : ∃ s, cs[j]? = some s := ⟨_, List.getElem?_eq_getElem (by have := HN.out; have := HIJ.out; have := HL.out; omega)⟩
              obtain ⟨g0, o0, s0, A0, n0, c0, D0, m0, e0, ea, cc0, cc1, cc2, klo⟩ := HQ.out.elem hqa
              subst ea
              have bp0 : CellF w _ _ := cc0
              have bp1 : CellF w _ _ := cc1
              have bp2 : CellF w _ _ := cc2
              clear cc0 cc1 cc2
              replace klo := klo.below H0
              have HLO : Hid (lo = some qa) := Lib.hid (by rw [hlo, hqa])
              clear hlo hqa
              obtain ⟨qb, hqb⟩ : ∃ s, cs[i]? = some s := ⟨_, List.getElem?_eq_getElem (by have := HN.out; omega)⟩
              have HHI := Lib.hid hqb
              obtain ⟨g1, o1, s1, A1, n1, c1, D1, m1, e1, eb, cd0, cd1, cd2, khi⟩ := HQ.out.elem hqb
              injection eb with eb
              injection eb with eb1 eb2
              subst eb1 eb2
              have br0 : CellF w _ _ := cd0
              have br1 : CellF w _ _ := cd1
              have br2 : CellF w _ _ := cd2
              clear cd0 cd1 cd2 hqb
              replace khi := khi.below H0
              have el : decide ((i : Int) < (nm : Int)) = true := decide_eq_true (by omega)
              have q1_ : ((i : Int) == 0) = false := by rw [beq_eq_false_iff_ne]; have := HIJ.out; omega
              have q2_ : decide ((0 : Int) < (i : Int)) = true := by exact decide_eq_true (by have := HIJ.out; omega)
              have q3_ : ((i : Int) == (n : Int)) = false := by rw [beq_eq_false_iff_ne]; omega
              have q4_ : decide ((i : Int) < (n : Int)) = true := by exact decide_eq_true (by omega)
              have hip : 0 < i := by have := HIJ.out; omega
              have hw9 : IntKind.i64.wrap ((i : Int) - 1) = (j : Int) := by have := HIJ.out; have := HL.out; rw [IntWalk.i64_in _ (by omega)]; omega
              have hjm : j < nm := by have := HIJ.out; omega
              have hjn : j < n := by have := HIJ.out; have := HL.out; omega
              have lwr : w.heap.size ≤ wr.heap.size := H0.size
              have cm := (bm.below H0).eq
              go_upto_region 7 with fail
              clear cm
              have hn8 := hown.ne' (Nat.le_refl _)
              obtain ⟨W100, hW, b8, hbW, hszW100⟩ := boxes1 wr #[.bool false, .slice none 0 0, .slice none 0 0, .bool false, .slice none 0 0, .slice none 0 0, .bool false, .bool false] 39
              rw [hW]
              clear hW
              replace klo := klo.below hbW
              replace khi := khi.below hbW
              replace hown := hown.below hbW
              replace hall := hall.below hbW
              replace H0 := H0.trans (hbW.mono H0.size)
              clear hbW
              clear hszW100
              have dd0 := (bp0.below H0).eq
              have dd1 := (bp1.below H0).eq
              have dd2 := (bp2.below H0).eq
              obtain ⟨cb80, yb80, cb81, yb81, cb82, yb82, cb83, yb83, cb84, yb84, cb85, yb85, cb86, yb86, cb87, yb87⟩ := b8.cf8
              go_upto_region 9 with fail
              clear cb80 yb80 cb81 yb81 cb82 yb82 cb83 yb83 cb84 yb84 cb85 yb85 cb86 yb86 cb87 yb87
              clear dd0 dd1 dd2
              obtain ⟨cb80, yb80, cb81, yb81, cb82, yb82, cb83, yb83, cb84, yb84, cb85, yb85, cb86, yb86, cb87, yb87⟩ := b8.cf8
              clear cb80 yb80 cb81 yb81 cb82 yb82 cb83 yb83 cb84 yb84 cb85 yb85 cb86 yb86 cb87 yb87
              have hg : World.grownBy W100 (((W100.setCell ⟨wr.heap.size, 0, none⟩ (.bool s0)).setCell ⟨wr.heap.size, 1, none⟩ (.slice A0 n0 c0)).setCell ⟨wr.heap.size, 2, none⟩ (.slice D0 m0 e0)) (some (wr.heap.size)) := only_trans (only_trans (only_setCell _ ⟨wr.heap.size, 0, none⟩ (.bool s0)) (only_setCell _ ⟨wr.heap.size, 1, none⟩ (.slice A0 n0 c0))) (only_setCell _ ⟨wr.heap.size, 2, none⟩ (.slice D0 m0 e0))
              have hB : Box (((W100.setCell ⟨wr.heap.size, 0, none⟩ (.bool s0)).setCell ⟨wr.heap.size, 1, none⟩ (.slice A0 n0 c0)).setCell ⟨wr.heap.size, 2, none⟩ (.slice D0 m0 e0)) (wr.heap.size) #[.bool s0, .slice A0 n0 c0, .slice D0 m0 e0, .bool false, .slice none 0 0, .slice none 0 0, .bool false, .bool false] 39 := (Box.step (Box.step (Box.step b8 0 (.bool s0)) 1 (.slice A0 n0 c0)) 2 (.slice D0 m0 e0))
              generalize hX : (((W100.setCell ⟨wr.heap.size, 0, none⟩ (.bool s0)).setCell ⟨wr.heap.size, 1, none⟩ (.slice A0 n0 c0)).setCell ⟨wr.heap.size, 2, none⟩ (.slice D0 m0 e0)) = X101 at hg hB ⊢
              clear hX
              replace klo := klo.kept b8 (by simp [notInt]) hg
              replace khi := khi.kept b8 (by simp [notInt]) hg
              replace hall := hall.kept b8 (by simp [notInt]) hg
              replace hown := hown.box b8 hg hn8
              replace b8 := hB
              replace H0 := below_only H0 hg (by omega) H0.size
              clear hg hB
              have dd0 := (br0.below H0).eq
              have dd1 := (br1.below H0).eq
              have dd2 := (br2.below H0).eq
              obtain ⟨cb80, yb80, cb81, yb81, cb82, yb82, cb83, yb83, cb84, yb84, cb85, yb85, cb86, yb86, cb87, yb87⟩ := b8.cf8
              go_upto_region 11 with fail
              clear cb80 yb80 cb81 yb81 cb82 yb82 cb83 yb83 cb84 yb84 cb85 yb85 cb86 yb86 cb87 yb87
              clear dd0 dd1 dd2
              obtain ⟨cb80, yb80, cb81, yb81, cb82, yb82, cb83, yb83, cb84, yb84, cb85, yb85, cb86, yb86, cb87, yb87⟩ := b8.cf8
              clear cb80 yb80 cb81 yb81 cb82 yb82 cb83 yb83 cb84 yb84 cb85 yb85 cb86 yb86 cb87 yb87
              have hg : World.grownBy X101 (((X101.setCell ⟨wr.heap.size, 3, none⟩ (.bool s1)).setCell ⟨wr.heap.size, 4, none⟩ (.slice A1 n1 c1)).setCell ⟨wr.heap.size, 5, none⟩ (.slice D1 m1 e1)) (some (wr.heap.size)) := only_trans (only_trans (only_setCell _ ⟨wr.heap.size, 3, none⟩ (.bool s1)) (only_setCell _ ⟨wr.heap.size, 4, none⟩ (.slice A1 n1 c1))) (only_setCell _ ⟨wr.heap.size, 5, none⟩ (.slice D1 m1 e1))
              have hB : Box (((X101.setCell ⟨wr.heap.size, 3, none⟩ (.bool s1)).setCell ⟨wr.heap.size, 4, none⟩ (.slice A1 n1 c1)).setCell ⟨wr.heap.size, 5, none⟩ (.slice D1 m1 e1)) (wr.heap.size) #[.bool s0, .slice A0 n0 c0, .slice D0 m0 e0, .bool s1, .slice A1 n1 c1, .slice D1 m1 e1, .bool false, .bool false] 39 := (Box.step (Box.step (Box.step b8 3 (.bool s1)) 4 (.slice A1 n1 c1)) 5 (.slice D1 m1 e1))
              generalize hX : (((X101.setCell ⟨wr.heap.size, 3, none⟩ (.bool s1)).setCell ⟨wr.heap.size, 4, none⟩ (.slice A1 n1 c1)).setCell ⟨wr.heap.size, 5, none⟩ (.slice D1 m1 e1)) = X102 at hg hB ⊢
              clear hX
              replace klo := klo.kept b8 (by simp [notInt]) hg
              replace khi := khi.kept b8 (by simp [notInt]) hg
              replace hall := hall.kept b8 (by simp [notInt]) hg
              replace hown := hown.box b8 hg hn8
              replace b8 := hB
              replace H0 := below_only H0 hg (by omega) H0.size
              clear hg hB
              have cm := (bmj.below H0).eq
              obtain ⟨cb80, cb81, cb82, cb83, cb84, cb85, cb86, cb87⟩ := b8.cells8
              have hq1 : ([.bool s0, .slice A0 n0 c0, .slice D0 m0 e0, .bool s1, .slice A1 n1 c1, .slice D1 m1 e1, .bool false, .bool false] : List Value).all (fun u => u.oneCell' && notInt u) = true := by simp [notInt, Value.oneCell']
              have ln1 : css.length ≤ 100000 := by have := HL.out; omega
              have lB1 : w.heap.size ≤ X102.heap.size := H0.size
              go_wp2_with (at_builtin; refine wpList_append_row (v := .slice A9 css.length c9) (css := css) rfl _ _ rfl elem_s6 w.heap.size [.bool s0, .slice A0 n0 c0, .slice D0 m0 e0, .bool s1, .slice A1 n1 c1, .slice D1 m1 e1, .bool false, .bool false] rfl hown rfl rfl hq1 ln1 lB1 ?_; intro v1 w3 hown1 hg1)
              clear cb80 cb81 cb82 cb83 cb84 cb85 cb86 cb87
              have hownN := hown1
              clear hown1
              have hallN : SrL w3 L (css ++ [([.bool s0, .slice A0 n0 c0, .slice D0 m0 e0, .bool s1, .slice A1 n1 c1, .slice D1 m1 e1, .bool false, .bool false] : List Value)]) (out ++ [⟨some qa, some qb⟩]) := All2.snoc (hall.own hown hg1) ⟨_, _, _, _, _, _, _, _, _, _, _, _, _, _, _, _, rfl, .inl ⟨rfl, _, rfl, klo.own hown hg1⟩, .inl ⟨rfl, _, rfl, khi.own hown hg1⟩⟩
              replace H0 := H0.trans (hown.trod hg1 lB1)
              clear hown hall hg1 b8 hn8 klo khi
              generalize css ++ [([.bool s0, .slice A0 n0 c0, .slice D0 m0 e0, .bool s1, .slice A1 n1 c1, .slice D1 m1 e1, .bool false, .bool false] : List Value)] = cs1_ at hownN hallN
              obtain ⟨A1_, c1_, rfl, hx1, hx2⟩ := hownN.form
              clear hx1 hx2
              have hGN := HG.out
              rw [from_tf HM1.out, HLO.out, HHI.out] at hGN
              have HGN := Lib.hid hGN
              clear hGN
              go_wp2_with fail
              go_roundw
              case rel => exact ⟨i + 1, _, _, _, _, true, _, by omega, by go_num, rfl, hownN, hallN, by have h1 := HOL.out; simp; omega, HGN.out, .inr ⟨i, rfl, HM1.out, HHI.out.symm⟩, fun _ => by simp, H0⟩
              case measure => simp [intOf]; omega
            · have HIJ := Lib.hid hij
              clear hij
              have HM1 := Lib.hid hmi
              obtain ⟨gm, om, em, cm⟩ := HMS.out.elem hmi
              subst em
              have bm : CellF w _ _ := cm
              clear cm hmi
              obtain ⟨gm', om', em', cm'⟩ := HMS.out.elem hmj
              injection em' with em'
              injection em' with em1 em2
              subst em1 em2
              have bmj : CellF w _ _ := cm'
              clear cm' hmj
              obtain ⟨qa, hqa⟩ : ∃ s, cs[j]? = some s := ⟨_, List.getElem?_eq_getElem (by have := HN.out; have := HIJ.out; have := HL.out; omega)⟩
              obtain ⟨g0, o0, s0, A0, n0, c0, D0, m0, e0, ea, cc0, cc1, cc2, klo⟩ := HQ.out.elem hqa
              subst ea
              have bp0 : CellF w _ _ := cc0
              have bp1 : CellF w _ _ := cc1
              have bp2 : CellF w _ _ := cc2
              clear cc0 cc1 cc2
              replace klo := klo.below H0
              have HLO : Hid (lo = some qa) := Lib.hid (by rw [hlo, hqa])
              clear hlo hqa
              obtain ⟨qb, hqb⟩ : ∃ s, cs[i]? = some s := ⟨_, List.getElem?_eq_getElem (by have := HN.out; omega)⟩
              have HHI := Lib.hid hqb
              obtain ⟨g1, o1, s1, A1, n1, c1, D1, m1, e1, eb, cd0, cd1, cd2, khi⟩ := HQ.out.elem hqb
              injection eb with eb
              injection eb with eb1 eb2
              subst eb1 eb2
              have br0 : CellF w _ _ := cd0
              have br1 : CellF w _ _ := cd1
              have br2 : CellF w _ _ := cd2
              clear cd0 cd1 cd2 hqb
              replace khi := khi.below H0
              have el : decide ((i : Int) < (nm : Int)) = true := decide_eq_true (by omega)
              have q1_ : ((i : Int) == 0) = false := by rw [beq_eq_false_iff_ne]; have := HIJ.out; omega
              have q2_ : decide ((0 : Int) < (i : Int)) = true := by exact decide_eq_true (by have := HIJ.out; omega)
              have q3_ : ((i : Int) == (n : Int)) = false := by rw [beq_eq_false_iff_ne]; omega
              have q4_ : decide ((i : Int) < (n : Int)) = true := by exact decide_eq_true (by omega)
              have hip : 0 < i := by have := HIJ.out; omega
              have hw9 : IntKind.i64.wrap ((i : Int) - 1) = (j : Int) := by have := HIJ.out; have := HL.out; rw [IntWalk.i64_in _ (by omega)]; omega
              have hjm : j < nm := by have := HIJ.out; omega
              have hjn : j < n := by have := HIJ.out; have := HL.out; omega
              obtain ⟨out0, s0_, rfl⟩ := last_of (hpo rfl)
              obtain ⟨css0, cl, rfl, hall0, s10, A10, n10, c10, D10, m10, e10, s11, A11, n11, c11, D11, m11, e11, f5, h5, rfl, kl0, kl1⟩ := All2.last hall
              clear hall kl1
              obtain ⟨m, hm⟩ : ∃ m, css0.length = m := ⟨_, rfl⟩
              rw [show (css0 ++ [([.bool s10, .slice A10 n10 c10, .slice D10 m10 e10, .bool s11, .slice A11 n11 c11, .slice D11 m11 e11, .bool f5, .bool h5] : List Value)]).length = m + 1 by rw [List.length_append, hm]; rfl] at hown hcl ⊢
              obtain ⟨g, rfl⟩ : ∃ g, A9 = some ⟨g, 0, none⟩ := own_some hown (Nat.succ_pos _)
              have HMM := Lib.hid hm
              clear hm
              have q5_ : decide ((0 : Int) < ((m + 1 : Nat) : Int)) = true := decide_eq_true (by omega)
              have hw8 : IntKind.i64.wrap (((m + 1 : Nat) : Int) - 1) = (m : Int) := by have := HL.out; rw [IntWalk.i64_in _ (by omega)]; omega
              have hw7 : IntKind.i64.wrap (m : Int) = (m : Int) := by have := HL.out; exact IntWalk.i64_in _ (by omega)
              have hb3 : (m : Int) < (m : Int) + 1 := by omega
              have q6_ : decide ((0 : Int) < (m : Int) + 1) = true := decide_eq_true (by omega)
              have hall0 : SrL wr L css0 out0 := hall0
              have lwr : w.heap.size ≤ wr.heap.size := H0.size
              have cm := (bm.below H0).eq
              go_upto_region 7 with fail
              clear cm
              have hn8 := hown.ne' (Nat.le_refl _)
              obtain ⟨W100, hW, b8, hbW, hszW100⟩ := boxes1 wr #[.bool false, .slice none 0 0, .slice none 0 0, .bool false, .slice none 0 0, .slice none 0 0, .bool false, .bool false] 39
              rw [hW]
              clear hW
              replace klo := klo.below hbW
              replace khi := khi.below hbW
              replace hown := hown.below hbW
              replace hall0 := hall0.below hbW
              replace kl0 := kl0.below hbW
              replace H0 := H0.trans (hbW.mono H0.size)
              clear hbW
              clear hszW100
              have dd0 := (bp0.below H0).eq
              have dd1 := (bp1.below H0).eq
              have dd2 := (bp2.below H0).eq
              obtain ⟨cb80, yb80, cb81, yb81, cb82, yb82, cb83, yb83, cb84, yb84, cb85, yb85, cb86, yb86, cb87, yb87⟩ := b8.cf8
              go_upto_region 9 with fail
              clear cb80 yb80 cb81 yb81 cb82 yb82 cb83 yb83 cb84 yb84 cb85 yb85 cb86 yb86 cb87 yb87
              clear dd0 dd1 dd2
              obtain ⟨cb80, yb80, cb81, yb81, cb82, yb82, cb83, yb83, cb84, yb84, cb85, yb85, cb86, yb86, cb87, yb87⟩ := b8.cf8
              clear cb80 yb80 cb81 yb81 cb82 yb82 cb83 yb83 cb84 yb84 cb85 yb85 cb86 yb86 cb87 yb87
              have hg : World.grownBy W100 (((W100.setCell ⟨wr.heap.size, 0, none⟩ (.bool s0)).setCell ⟨wr.heap.size, 1, none⟩ (.slice A0 n0 c0)).setCell ⟨wr.heap.size, 2, none⟩ (.slice D0 m0 e0)) (some (wr.heap.size)) := only_trans (only_trans (only_setCell _ ⟨wr.heap.size, 0, none⟩ (.bool s0)) (only_setCell _ ⟨wr.heap.size, 1, none⟩ (.slice A0 n0 c0))) (only_setCell _ ⟨wr.heap.size, 2, none⟩ (.slice D0 m0 e0))
              have hB : Box (((W100.setCell ⟨wr.heap.size, 0, none⟩ (.bool s0)).setCell ⟨wr.heap.size, 1, none⟩ (.slice A0 n0 c0)).setCell ⟨wr.heap.size, 2, none⟩ (.slice D0 m0 e0)) (wr.heap.size) #[.bool s0, .slice A0 n0 c0, .slice D0 m0 e0, .bool false, .slice none 0 0, .slice none 0 0, .bool false, .bool false] 39 := (Box.step (Box.step (Box.step b8 0 (.bool s0)) 1 (.slice A0 n0 c0)) 2 (.slice D0 m0 e0))
              generalize hX : (((W100.setCell ⟨wr.heap.size, 0, none⟩ (.bool s0)).setCell ⟨wr.heap.size, 1, none⟩ (.slice A0 n0 c0)).setCell ⟨wr.heap.size, 2, none⟩ (.slice D0 m0 e0)) = X101 at hg hB ⊢
              clear hX
              replace klo := klo.kept b8 (by simp [notInt]) hg
              replace khi := khi.kept b8 (by simp [notInt]) hg
              replace hall0 := hall0.kept b8 (by simp [notInt]) hg
              replace kl0 := kl0.kept b8 (by simp [notInt]) hg
              replace hown := hown.box b8 hg hn8
              replace b8 := hB
              replace H0 := below_only H0 hg (by omega) H0.size
              clear hg hB
              have dd0 := (br0.below H0).eq
              have dd1 := (br1.below H0).eq
              have dd2 := (br2.below H0).eq
              obtain ⟨cb80, yb80, cb81, yb81, cb82, yb82, cb83, yb83, cb84, yb84, cb85, yb85, cb86, yb86, cb87, yb87⟩ := b8.cf8
              go_upto_region 11 with fail
              clear cb80 yb80 cb81 yb81 cb82 yb82 cb83 yb83 cb84 yb84 cb85 yb85 cb86 yb86 cb87 yb87
              clear dd0 dd1 dd2
              obtain ⟨cb80, yb80, cb81, yb81, cb82, yb82, cb83, yb83, cb84, yb84, cb85, yb85, cb86, yb86, cb87, yb87⟩ := b8.cf8
              clear cb80 yb80 cb81 yb81 cb82 yb82 cb83 yb83 cb84 yb84 cb85 yb85 cb86 yb86 cb87 yb87
              have hg : World.grownBy X101 (((X101.setCell ⟨wr.heap.size, 3, none⟩ (.bool s1)).setCell ⟨wr.heap.size, 4, none⟩ (.slice A1 n1 c1)).setCell ⟨wr.heap.size, 5, none⟩ (.slice D1 m1 e1)) (some (wr.heap.size)) := only_trans (only_trans (only_setCell _ ⟨wr.heap.size, 3, none⟩ (.bool s1)) (only_setCell _ ⟨wr.heap.size, 4, none⟩ (.slice A1 n1 c1))) (only_setCell _ ⟨wr.heap.size, 5, none⟩ (.slice D1 m1 e1))
              have hB : Box (((X101.setCell ⟨wr.heap.size, 3, none⟩ (.bool s1)).setCell ⟨wr.heap.size, 4, none⟩ (.slice A1 n1 c1)).setCell ⟨wr.heap.size, 5, none⟩ (.slice D1 m1 e1)) (wr.heap.size) #[.bool s0, .slice A0 n0 c0, .slice D0 m0 e0, .bool s1, .slice A1 n1 c1, .slice D1 m1 e1, .bool false, .bool false] 39 := (Box.step (Box.step (Box.step b8 3 (.bool s1)) 4 (.slice A1 n1 c1)) 5 (.slice D1 m1 e1))
              generalize hX : (((X101.setCell ⟨wr.heap.size, 3, none⟩ (.bool s1)).setCell ⟨wr.heap.size, 4, none⟩ (.slice A1 n1 c1)).setCell ⟨wr.heap.size, 5, none⟩ (.slice D1 m1 e1)) = X102 at hg hB ⊢
              clear hX
              replace klo := klo.kept b8 (by simp [notInt]) hg
              replace khi := khi.kept b8 (by simp [notInt]) hg
              replace hall0 := hall0.kept b8 (by simp [notInt]) hg
              replace kl0 := kl0.kept b8 (by simp [notInt]) hg
              replace hown := hown.box b8 hg hn8
              replace b8 := hB
              replace H0 := below_only H0 hg (by omega) H0.size
              clear hg hB
              have cm := (bmj.below H0).eq
              obtain ⟨cb80, cb81, cb82, cb83, cb84, cb85, cb86, cb87⟩ := b8.cells8
              go_wp2_with fail
              clear cm
              clear cb80 cb81 cb82 cb83 cb84 cb85 cb86 cb87
              have hD := drawn_below X102
              replace klo := klo.below hD
              replace khi := khi.below hD
              replace hall0 := hall0.below hD
              replace kl0 := kl0.below hD
              replace hown := hown.below hD
              replace b8 := b8.below hD
              replace H0 := H0.trans (hD.mono H0.size)
              clear hD
              refine wp_region_noPanic ?_
              refine wp_region_held_drew (S := (fun V => V.cell? ⟨wr.heap.size, 0, none⟩ = some (.bool s0) ∧ V.cell? ⟨wr.heap.size, 1, none⟩ = some (.slice A0 n0 c0) ∧ V.cell? ⟨wr.heap.size, 2, none⟩ = some (.slice D0 m0 e0) ∧ V.cell? ⟨wr.heap.size, 3, none⟩ = some (.bool s1) ∧ V.cell? ⟨wr.heap.size, 4, none⟩ = some (.slice A1 n1 c1) ∧ V.cell? ⟨wr.heap.size, 5, none⟩ = some (.slice D1 m1 e1) ∧ V.cell? ⟨wr.heap.size, 6, none⟩ = some (.bool false) ∧ V.cell? ⟨wr.heap.size, 7, none⟩ = some (.bool false))) (by kernel_rfl) (b8.all8) (fun hHeld => ?_)
              generalize X102.drew = v103 at H0 hHeld klo khi hall0 kl0 hown b8 ⊢
              refine todo [0, 1, 2, 3, 4, 5, 6, 7, 8, 9, 10, 11] ?_
              iterate 12
                refine tkT ?_ rfl (by kernel_rfl) (fun _ _ _ h => h) (by rfl) (by assumption) ?_ ?_
                rotate_left
                · (intro w hSw; (try dsimp only at hSw); go_simp; (try with_reducible rfl))
                (try simp only [getElem_toArray, getElem_cons_succ, getElem_cons_zero, Act.put, setIfInBounds_toArray, set_cons_zero, set_cons_succ])
              refine tdone ?_
              obtain ⟨y3, y4, y5, y7, yf⟩ := hown.at8
              rw [HMM.out] at y3 y4 y5 y7
              have yf3 := yf (m * 8 + 3)
              have yf4 := yf (m * 8 + 3 + 1)
              have yf5 := yf (m * 8 + 3 + 2)
              have yf7 := yf (m * 8 + 7)
              clear yf
              refine rd1 12 (by kernel_rfl) rfl (fun K hK => ?_)
              go_simp
              clear y3 y4 y5 y7 yf3 yf4 yf5 yf7
              have s0_ := hown.setLast (j := 3) (u := .bool s1) (by rw [HMM.out]) rfl
              have s1_ := s0_.setLast (j := 4) (u := .slice A1 n1 c1) (by rw [HMM.out]) rfl
              have s2_ := s1_.setLast (j := 5) (u := .slice D1 m1 e1) (by rw [HMM.out]) rfl
              rw [HMM.out] at s2_
              simp only [List.set_cons_zero, List.set_cons_succ] at s2_
              have hg : World.grownBy v103 (((v103.setCell ⟨g, m * 8 + 3, none⟩ (.bool s1)).setCell ⟨g, m * 8 + 3 + 1, none⟩ (.slice A1 n1 c1)).setCell ⟨g, m * 8 + 3 + 2, none⟩ (.slice D1 m1 e1)) (some g) := only_trans (only_trans (only_setCell _ _ _) (only_setCell _ _ _)) (only_setCell _ _ _)
              replace klo := klo.own hown hg
              replace khi := khi.own hown hg
              replace hall0 := hall0.own hown hg
              replace kl0 := kl0.own hown hg
              replace b8 := b8.own (v := .slice (some ⟨g, 0, none⟩) (m + 1) c9) hg hn8
              replace H0 := H0.trans (hown.trod hg H0.size)
              clear hown
              have hown := s2_
              clear hg s0_ s1_ s2_
              generalize hX : (((v103.setCell ⟨g, m * 8 + 3, none⟩ (.bool s1)).setCell ⟨g, m * 8 + 3 + 1, none⟩ (.slice A1 n1 c1)).setCell ⟨g, m * 8 + 3 + 2, none⟩ (.slice D1 m1 e1)) = X104 at klo khi hall0 kl0 hown H0 b8 ⊢
              clear hX
              refine hK.out _ _ (b8.all8) (fun hHeld => ?_)
              clear hK K
              (try simp only [getElem_toArray, getElem_cons_succ, getElem_cons_zero, Act.put, setIfInBounds_toArray, set_cons_zero, set_cons_succ])
              refine todo [13, 14] ?_
              iterate 2
                refine tkT ?_ rfl (by kernel_rfl) (fun _ _ _ h => h) (by rfl) (by assumption) ?_ ?_
                rotate_left
                · (intro w hSw; (try dsimp only at hSw); go_simp; (try with_reducible rfl))
                (try simp only [getElem_toArray, getElem_cons_succ, getElem_cons_zero, Act.put, setIfInBounds_toArray, set_cons_zero, set_cons_succ])
              refine tdone ?_
              obtain ⟨y3, y4, y5, y7, yf⟩ := hown.at8
              rw [HMM.out] at y3 y4 y5 y7
              have yf3 := yf (m * 8 + 3)
              have yf4 := yf (m * 8 + 3 + 1)
              have yf5 := yf (m * 8 + 3 + 2)
              have yf7 := yf (m * 8 + 7)
              clear yf
              refine rd1 15 (by kernel_rfl) rfl (fun K hK => ?_)
              go_simp
              clear y3 y4 y5 y7 yf3 yf4 yf5 yf7
              have s0_ := hown.setLast (j := 7) (u := .bool false) (by rw [HMM.out]) rfl
              rw [HMM.out] at s0_
              simp only [List.set_cons_zero, List.set_cons_succ] at s0_
              have hg : World.grownBy X104 (X104.setCell ⟨g, m * 8 + 7, none⟩ (.bool false)) (some g) := only_setCell _ _ _
              replace klo := klo.own hown hg
              replace khi := khi.own hown hg
              replace hall0 := hall0.own hown hg
              replace kl0 := kl0.own hown hg
              replace b8 := b8.own (v := .slice (some ⟨g, 0, none⟩) (m + 1) c9) hg hn8
              replace H0 := H0.trans (hown.trod hg H0.size)
              clear hown
              have hown := s0_
              clear hg s0_
              generalize hX : (X104.setCell ⟨g, m * 8 + 7, none⟩ (.bool false)) = X105 at klo khi hall0 kl0 hown H0 b8 ⊢
              clear hX
              refine hK.out _ _ (b8.all8) (fun hHeld => ?_)
              clear hK K
              (try simp only [getElem_toArray, getElem_cons_succ, getElem_cons_zero, Act.put, setIfInBounds_toArray, set_cons_zero, set_cons_succ])
              refine wpAnyH_done (by kernel_rfl) ?_ _
              refine NoPanic.normal ?_
              have hallN : SrL X105 L (css0 ++ [([.bool s10, .slice A10 n10 c10, .slice D10 m10 e10, .bool s1, .slice A1 n1 c1, .slice D1 m1 e1, .bool f5, .bool false] : List Value)]) (out0 ++ [⟨s0_.lo, some qb⟩]) := All2.snoc hall0 ⟨_, _, _, _, _, _, _, _, _, _, _, _, _, _, _, _, rfl, kl0, .inl ⟨rfl, _, rfl, khi⟩⟩
              have HLN : Hid ((css0 ++ [([.bool s10, .slice A10 n10 c10, .slice D10 m10 e10, .bool s1, .slice A1 n1 c1, .slice D1 m1 e1, .bool f5, .bool false] : List Value)]).length = m + 1) := Lib.hid (by rw [List.length_append, HMM.out]; rfl)
              generalize css0 ++ [([.bool s10, .slice A10 n10 c10, .slice D10 m10 e10, .bool s1, .slice A1 n1 c1, .slice D1 m1 e1, .bool f5, .bool false] : List Value)] = cssN at hown hallN HLN
              have hGN := HG.out
              rw [from_tt HM1.out, HHI.out] at hGN
              have HGN := Lib.hid hGN
              clear hGN b8 hn8 klo khi hall0 kl0
              go_wp2_with fail
              go_roundw
              case rel => exact ⟨i + 1, _, _, cssN, _, true, _, by omega, by go_num, by rw [HLN.out], by rw [HLN.out]; exact hown, hallN, by have h1 := HOL.out; simp at h1 ⊢; omega, HGN.out, .inr ⟨i, rfl, HM1.out, HHI.out.symm⟩, fun _ => by simp, H0⟩
              case measure => simp [intOf]; omega
          · cases p
            · have HIJ := Lib.hid hij
              clear hij
              have HM1 := Lib.hid hmi
              obtain ⟨gm, om, em, cm⟩ := HMS.out.elem hmi
              subst em
              have bm : CellF w _ _ := cm
              clear cm hmi
              obtain ⟨gm', om', em', cm'⟩ := HMS.out.elem hmj
              injection em' with em'
              injection em' with em1 em2
              subst em1 em2
              have bmj : CellF w _ _ := cm'
              clear cm' hmj
              obtain ⟨qa, hqa⟩ : ∃ s, cs[j]? = some s := ⟨_, List.getElem?_eq_getElem (by have := HN.out; have := HIJ.out; have := HL.out; omega)⟩
              obtain ⟨g0, o0, s0, A0, n0, c0, D0, m0, e0, ea, cc0, cc1, cc2, klo⟩ := HQ.out.elem hqa
              subst ea
              have bp0 : CellF w _ _ := cc0
              have bp1 : CellF w _ _ := cc1
              have bp2 : CellF w _ _ := cc2
              clear cc0 cc1 cc2
              replace klo := klo.below H0
              have HLO : Hid (lo = some qa) := Lib.hid (by rw [hlo, hqa])
              clear hlo hqa
              have HHI : Hid (cs[i]? = none) := Lib.hid (List.getElem?_eq_none (by have := HN.out; omega))
              have el : decide ((i : Int) < (nm : Int)) = true := decide_eq_true (by omega)
              have q1_ : ((i : Int) == 0) = false := by rw [beq_eq_false_iff_ne]; have := HIJ.out; omega
              have q2_ : decide ((0 : Int) < (i : Int)) = true := by exact decide_eq_true (by have := HIJ.out; omega)
              have q3_ : ((i : Int) == (n : Int)) = true := by rw [beq_iff_eq]; have := HL.out; omega
              have q4_ : decide ((i : Int) < (n : Int)) = false := by rw [decide_eq_false_iff_not]; omega
              have hip : 0 < i := by have := HIJ.out; omega
              have hw9 : IntKind.i64.wrap ((i : Int) - 1) = (j : Int) := by have := HIJ.out; have := HL.out; rw [IntWalk.i64_in _ (by omega)]; omega
              have hjm : j < nm := by have := HIJ.out; omega
              have hjn : j < n := by have := HIJ.out; have := HL.out; omega
              have lwr : w.heap.size ≤ wr.heap.size := H0.size
              have cm := (bm.below H0).eq
              go_upto_region 7 with fail
              clear cm
              have hn8 := hown.ne' (Nat.le_refl _)
              obtain ⟨W100, hW, b8, hbW, hszW100⟩ := boxes1 wr #[.bool false, .slice none 0 0, .slice none 0 0, .bool false, .slice none 0 0, .slice none 0 0, .bool false, .bool true] 39
              rw [hW]
              clear hW
              replace klo := klo.below hbW
              replace hown := hown.below hbW
              replace hall := hall.below hbW
              replace H0 := H0.trans (hbW.mono H0.size)
              clear hbW
              clear hszW100
              have dd0 := (bp0.below H0).eq
              have dd1 := (bp1.below H0).eq
              have dd2 := (bp2.below H0).eq
              obtain ⟨cb80, yb80, cb81, yb81, cb82, yb82, cb83, yb83, cb84, yb84, cb85, yb85, cb86, yb86, cb87, yb87⟩ := b8.cf8
              go_upto_region 9 with fail
              clear cb80 yb80 cb81 yb81 cb82 yb82 cb83 yb83 cb84 yb84 cb85 yb85 cb86 yb86 cb87 yb87
              clear dd0 dd1 dd2
              obtain ⟨cb80, yb80, cb81, yb81, cb82, yb82, cb83, yb83, cb84, yb84, cb85, yb85, cb86, yb86, cb87, yb87⟩ := b8.cf8
              clear cb80 yb80 cb81 yb81 cb82 yb82 cb83 yb83 cb84 yb84 cb85 yb85 cb86 yb86 cb87 yb87
              have hg : World.grownBy W100 (((W100.setCell ⟨wr.heap.size, 0, none⟩ (.bool s0)).setCell ⟨wr.heap.size, 1, none⟩ (.slice A0 n0 c0)).setCell ⟨wr.heap.size, 2, none⟩ (.slice D0 m0 e0)) (some (wr.heap.size)) := only_trans (only_trans (only_setCell _ ⟨wr.heap.size, 0, none⟩ (.bool s0)) (only_setCell _ ⟨wr.heap.size, 1, none⟩ (.slice A0 n0 c0))) (only_setCell _ ⟨wr.heap.size, 2, none⟩ (.slice D0 m0 e0))
              have hB : Box (((W100.setCell ⟨wr.heap.size, 0, none⟩ (.bool s0)).setCell ⟨wr.heap.size, 1, none⟩ (.slice A0 n0 c0)).setCell ⟨wr.heap.size, 2, none⟩ (.slice D0 m0 e0)) (wr.heap.size) #[.bool s0, .slice A0 n0 c0, .slice D0 m0 e0, .bool false, .slice none 0 0, .slice none 0 0, .bool false, .bool true] 39 := (Box.step (Box.step (Box.step b8 0 (.bool s0)) 1 (.slice A0 n0 c0)) 2 (.slice D0 m0 e0))
              generalize hX : (((W100.setCell ⟨wr.heap.size, 0, none⟩ (.bool s0)).setCell ⟨wr.heap.size, 1, none⟩ (.slice A0 n0 c0)).setCell ⟨wr.heap.size, 2, none⟩ (.slice D0 m0 e0)) = X101 at hg hB ⊢
              clear hX
              replace klo := klo.kept b8 (by simp [notInt]) hg
              replace hall := hall.kept b8 (by simp [notInt]) hg
              replace hown := hown.box b8 hg hn8
              replace b8 := hB
              replace H0 := below_only H0 hg (by omega) H0.size
              clear hg hB
              go_upto_region 11 with fail
              have cm := (bmj.below H0).eq
              obtain ⟨cb80, cb81, cb82, cb83, cb84, cb85, cb86, cb87⟩ := b8.cells8
              have hq1 : ([.bool s0, .slice A0 n0 c0, .slice D0 m0 e0, .bool false, .slice none 0 0, .slice none 0 0, .bool false, .bool true] : List Value).all (fun u => u.oneCell' && notInt u) = true := by simp [notInt, Value.oneCell']
              have ln1 : css.length ≤ 100000 := by have := HL.out; omega
              have lB1 : w.heap.size ≤ X101.heap.size := H0.size
              go_wp2_with (at_builtin; refine wpList_append_row (v := .slice A9 css.length c9) (css := css) rfl _ _ rfl elem_s6 w.heap.size [.bool s0, .slice A0 n0 c0, .slice D0 m0 e0, .bool false, .slice none 0 0, .slice none 0 0, .bool false, .bool true] rfl hown rfl rfl hq1 ln1 lB1 ?_; intro v1 w3 hown1 hg1)
              clear cb80 cb81 cb82 cb83 cb84 cb85 cb86 cb87
              have hownN := hown1
              clear hown1
              have hallN : SrL w3 L (css ++ [([.bool s0, .slice A0 n0 c0, .slice D0 m0 e0, .bool false, .slice none 0 0, .slice none 0 0, .bool false, .bool true] : List Value)]) (out ++ [⟨some qa, none⟩]) := All2.snoc (hall.own hown hg1) ⟨_, _, _, _, _, _, _, _, _, _, _, _, _, _, _, _, rfl, .inl ⟨rfl, _, rfl, klo.own hown hg1⟩, .inr ⟨rfl, rfl⟩⟩
              replace H0 := H0.trans (hown.trod hg1 lB1)
              clear hown hall hg1 b8 hn8 klo
              generalize css ++ [([.bool s0, .slice A0 n0 c0, .slice D0 m0 e0, .bool false, .slice none 0 0, .slice none 0 0, .bool false, .bool true] : List Value)] = cs1_ at hownN hallN
              obtain ⟨A1_, c1_, rfl, hx1, hx2⟩ := hownN.form
              clear hx1 hx2
              have hGN := HG.out
              rw [from_tf HM1.out, HLO.out, HHI.out] at hGN
              have HGN := Lib.hid hGN
              clear hGN
              go_wp2_with fail
              go_roundw
              case rel => exact ⟨i + 1, _, _, _, _, true, _, by omega, by go_num, rfl, hownN, hallN, by have h1 := HOL.out; simp; omega, HGN.out, .inr ⟨i, rfl, HM1.out, HHI.out.symm⟩, fun _ => by simp, H0⟩
              case measure => simp [intOf]; omega
            · have HIJ := Lib.hid hij
              clear hij
              have HM1 := Lib.hid hmi
              obtain ⟨gm, om, em, cm⟩ := HMS.out.elem hmi
              subst em
              have bm : CellF w _ _ := cm
              clear cm hmi
              obtain ⟨gm', om', em', cm'⟩ := HMS.out.elem hmj
              injection em' with em'
              injection em' with em1 em2
              subst em1 em2
              have bmj : CellF w _ _ := cm'
              clear cm' hmj
              obtain ⟨qa, hqa⟩ : ∃ s, cs[j]? = some s := ⟨_, List.getElem?_eq_getElem (by have := HN.out; have := HIJ.out; have := HL.out; omega)⟩
              obtain ⟨g0, o0, s0, A0, n0, c0, D0, m0, e0, ea, cc0, cc1, cc2, klo⟩ := HQ.out.elem hqa
              subst ea
              have bp0 : CellF w _ _ := cc0
              have bp1 : CellF w _ _ := cc1
              have bp2 : CellF w _ _ := cc2
              clear cc0 cc1 cc2
              replace klo := klo.below H0
              have HLO : Hid (lo = some qa) := Lib.hid (by rw [hlo, hqa])
              clear hlo hqa
              have HHI : Hid (cs[i]? = none) := Lib.hid (List.getElem?_eq_none (by have := HN.out; omega))
              have el : decide ((i : Int) < (nm : Int)) = true := decide_eq_true (by omega)
              have q1_ : ((i : Int) == 0) = false := by rw [beq_eq_false_iff_ne]; have := HIJ.out; omega
              have q2_ : decide ((0 : Int) < (i : Int)) = true := by exact decide_eq_true (by have := HIJ.out; omega)
              have q3_ : ((i : Int) == (n : Int)) = true := by rw [beq_iff_eq]; have := HL.out; omega
              have q4_ : decide ((i : Int) < (n : Int)) = false := by rw [decide_eq_false_iff_not]; omega
              have hip : 0 < i := by have := HIJ.out; omega
              have hw9 : IntKind.i64.wrap ((i : Int) - 1) = (j : Int) := by have := HIJ.out; have := HL.out; rw [IntWalk.i64_in _ (by omega)]; omega
              have hjm : j < nm := by have := HIJ.out; omega
              have hjn : j < n := by have := HIJ.out; have := HL.out; omega
              obtain ⟨out0, s0_, rfl⟩ := last_of (hpo rfl)
              obtain ⟨css0, cl, rfl, hall0, s10, A10, n10, c10, D10, m10, e10, s11, A11, n11, c11, D11, m11, e11, f5, h5, rfl, kl0, kl1⟩ := All2.last hall
              clear hall kl1
              obtain ⟨m, hm⟩ : ∃ m, css0.length = m := ⟨_, rfl⟩
              rw [show (css0 ++ [([.bool s10, .slice A10 n10 c10, .slice D10 m10 e10, .bool s11, .slice A11 n11 c11, .slice D11 m11 e11, .bool f5, .bool h5] : List Value)]).length = m + 1 by rw [List.length_append, hm]; rfl] at hown hcl ⊢
              obtain ⟨g, rfl⟩ : ∃ g, A9 = some ⟨g, 0, none⟩ := own_some hown (Nat.succ_pos _)
              have HMM := Lib.hid hm
              clear hm
              have q5_ : decide ((0 : Int) < ((m + 1 : Nat) : Int)) = true := decide_eq_true (by omega)
              have hw8 : IntKind.i64.wrap (((m + 1 : Nat) : Int) - 1) = (m : Int) := by have := HL.out; rw [IntWalk.i64_in _ (by omega)]; omega
              have hw7 : IntKind.i64.wrap (m : Int) = (m : Int) := by have := HL.out; exact IntWalk.i64_in _ (by omega)
              have hb3 : (m : Int) < (m : Int) + 1 := by omega
              have q6_ : decide ((0 : Int) < (m : Int) + 1) = true := decide_eq_true (by omega)
              have hall0 : SrL wr L css0 out0 := hall0
              have lwr : w.heap.size ≤ wr.heap.size := H0.size
              have cm := (bm.below H0).eq
              go_upto_region 7 with fail
              clear cm
              have hn8 := hown.ne' (Nat.le_refl _)
              obtain ⟨W100, hW, b8, hbW, hszW100⟩ := boxes1 wr #[.bool false, .slice none 0 0, .slice none 0 0, .bool false, .slice none 0 0, .slice none 0 0, .bool false, .bool true] 39
              rw [hW]
              clear hW
              replace klo := klo.below hbW
              replace hown := hown.below hbW
              replace hall0 := hall0.below hbW
              replace kl0 := kl0.below hbW
              replace H0 := H0.trans (hbW.mono H0.size)
              clear hbW
              clear hszW100
              have dd0 := (bp0.below H0).eq
              have dd1 := (bp1.below H0).eq
              have dd2 := (bp2.below H0).eq
              obtain ⟨cb80, yb80, cb81, yb81, cb82, yb82, cb83, yb83, cb84, yb84, cb85, yb85, cb86, yb86, cb87, yb87⟩ := b8.cf8
              go_upto_region 9 with fail
              clear cb80 yb80 cb81 yb81 cb82 yb82 cb83 yb83 cb84 yb84 cb85 yb85 cb86 yb86 cb87 yb87
              clear dd0 dd1 dd2
              obtain ⟨cb80, yb80, cb81, yb81, cb82, yb82, cb83, yb83, cb84, yb84, cb85, yb85, cb86, yb86, cb87, yb87⟩ := b8.cf8
              clear cb80 yb80 cb81 yb81 cb82 yb82 cb83 yb83 cb84 yb84 cb85 yb85 cb86 yb86 cb87 yb87
              have hg : World.grownBy W100 (((W100.setCell ⟨wr.heap.size, 0, none⟩ (.bool s0)).setCell ⟨wr.heap.size, 1, none⟩ (.slice A0 n0 c0)).setCell ⟨wr.heap.size, 2, none⟩ (.slice D0 m0 e0)) (some (wr.heap.size)) := only_trans (only_trans (only_setCell _ ⟨wr.heap.size, 0, none⟩ (.bool s0)) (only_setCell _ ⟨wr.heap.size, 1, none⟩ (.slice A0 n0 c0))) (only_setCell _ ⟨wr.heap.size, 2, none⟩ (.slice D0 m0 e0))
              have hB : Box (((W100.setCell ⟨wr.heap.size, 0, none⟩ (.bool s0)).setCell ⟨wr.heap.size, 1, none⟩ (.slice A0 n0 c0)).setCell ⟨wr.heap.size, 2, none⟩ (.slice D0 m0 e0)) (wr.heap.size) #[.bool s0, .slice A0 n0 c0, .slice D0 m0 e0, .bool false, .slice none 0 0, .slice none 0 0, .bool false, .bool true] 39 := (Box.step (Box.step (Box.step b8 0 (.bool s0)) 1 (.slice A0 n0 c0)) 2 (.slice D0 m0 e0))
              generalize hX : (((W100.setCell ⟨wr.heap.size, 0, none⟩ (.bool s0)).setCell ⟨wr.heap.size, 1, none⟩ (.slice A0 n0 c0)).setCell ⟨wr.heap.size, 2, none⟩ (.slice D0 m0 e0)) = X101 at hg hB ⊢
              clear hX
              replace klo := klo.kept b8 (by simp [notInt]) hg
              replace hall0 := hall0.kept b8 (by simp [notInt]) hg
              replace kl0 := kl0.kept b8 (by simp [notInt]) hg
              replace hown := hown.box b8 hg hn8
              replace b8 := hB
              replace H0 := below_only H0 hg (by omega) H0.size
              clear hg hB
              go_upto_region 11 with fail
              have cm := (bmj.below H0).eq
              obtain ⟨cb80, cb81, cb82, cb83, cb84, cb85, cb86, cb87⟩ := b8.cells8
              go_wp2_with fail
              clear cm
              clear cb80 cb81 cb82 cb83 cb84 cb85 cb86 cb87
              have hD := drawn_below X101
              replace klo := klo.below hD
              replace hall0 := hall0.below hD
              replace kl0 := kl0.below hD
              replace hown := hown.below hD
              replace b8 := b8.below hD
              replace H0 := H0.trans (hD.mono H0.size)
              clear hD
              refine wp_region_noPanic ?_
              refine wp_region_held_drew (S := (fun V => V.cell? ⟨wr.heap.size, 0, none⟩ = some (.bool s0) ∧ V.cell? ⟨wr.heap.size, 1, none⟩ = some (.slice A0 n0 c0) ∧ V.cell? ⟨wr.heap.size, 2, none⟩ = some (.slice D0 m0 e0) ∧ V.cell? ⟨wr.heap.size, 3, none⟩ = some (.bool false) ∧ V.cell? ⟨wr.heap.size, 4, none⟩ = some (.slice none 0 0) ∧ V.cell? ⟨wr.heap.size, 5, none⟩ = some (.slice none 0 0) ∧ V.cell? ⟨wr.heap.size, 6, none⟩ = some (.bool false) ∧ V.cell? ⟨wr.heap.size, 7, none⟩ = some (.bool true))) (by kernel_rfl) (b8.all8) (fun hHeld => ?_)
              generalize X101.drew = v102 at H0 hHeld klo hall0 kl0 hown b8 ⊢
              refine todo [0, 1, 2, 3, 4, 5, 6, 7, 8, 9, 10, 11] ?_
              iterate 12
                refine tkT ?_ rfl (by kernel_rfl) (fun _ _ _ h => h) (by rfl) (by assumption) ?_ ?_
                rotate_left
                · (intro w hSw; (try dsimp only at hSw); go_simp; (try with_reducible rfl))
                (try simp only [getElem_toArray, getElem_cons_succ, getElem_cons_zero, Act.put, setIfInBounds_toArray, set_cons_zero, set_cons_succ])
              refine tdone ?_
              obtain ⟨y3, y4, y5, y7, yf⟩ := hown.at8
              rw [HMM.out] at y3 y4 y5 y7
              have yf3 := yf (m * 8 + 3)
              have yf4 := yf (m * 8 + 3 + 1)
              have yf5 := yf (m * 8 + 3 + 2)
              have yf7 := yf (m * 8 + 7)
              clear yf
              refine rd1 12 (by kernel_rfl) rfl (fun K hK => ?_)
              go_simp
              clear y3 y4 y5 y7 yf3 yf4 yf5 yf7
              have s0_ := hown.setLast (j := 3) (u := .bool false) (by rw [HMM.out]) rfl
              have s1_ := s0_.setLast (j := 4) (u := .slice none 0 0) (by rw [HMM.out]) rfl
              have s2_ := s1_.setLast (j := 5) (u := .slice none 0 0) (by rw [HMM.out]) rfl
              rw [HMM.out] at s2_
              simp only [List.set_cons_zero, List.set_cons_succ] at s2_
              have hg : World.grownBy v102 (((v102.setCell ⟨g, m * 8 + 3, none⟩ (.bool false)).setCell ⟨g, m * 8 + 3 + 1, none⟩ (.slice none 0 0)).setCell ⟨g, m * 8 + 3 + 2, none⟩ (.slice none 0 0)) (some g) := only_trans (only_trans (only_setCell _ _ _) (only_setCell _ _ _)) (only_setCell _ _ _)
              replace klo := klo.own hown hg
              replace hall0 := hall0.own hown hg
              replace kl0 := kl0.own hown hg
              replace b8 := b8.own (v := .slice (some ⟨g, 0, none⟩) (m + 1) c9) hg hn8
              replace H0 := H0.trans (hown.trod hg H0.size)
              clear hown
              have hown := s2_
              clear hg s0_ s1_ s2_
              generalize hX : (((v102.setCell ⟨g, m * 8 + 3, none⟩ (.bool false)).setCell ⟨g, m * 8 + 3 + 1, none⟩ (.slice none 0 0)).setCell ⟨g, m * 8 + 3 + 2, none⟩ (.slice none 0 0)) = X103 at klo hall0 kl0 hown H0 b8 ⊢
              clear hX
              refine hK.out _ _ (b8.all8) (fun hHeld => ?_)
              clear hK K
              (try simp only [getElem_toArray, getElem_cons_succ, getElem_cons_zero, Act.put, setIfInBounds_toArray, set_cons_zero, set_cons_succ])
              refine todo [13, 14] ?_
              iterate 2
                refine tkT ?_ rfl (by kernel_rfl) (fun _ _ _ h => h) (by rfl) (by assumption) ?_ ?_
                rotate_left
                · (intro w hSw; (try dsimp only at hSw); go_simp; (try with_reducible rfl))
                (try simp only [getElem_toArray, getElem_cons_succ, getElem_cons_zero, Act.put, setIfInBounds_toArray, set_cons_zero, set_cons_succ])
              refine tdone ?_
              obtain ⟨y3, y4, y5, y7, yf⟩ := hown.at8
              rw [HMM.out] at y3 y4 y5 y7
              have yf3 := yf (m * 8 + 3)
              have yf4 := yf (m * 8 + 3 + 1)
              have yf5 := yf (m * 8 + 3 + 2)
              have yf7 := yf (m * 8 + 7)
              clear yf
              refine rd1 15 (by kernel_rfl) rfl (fun K hK => ?_)
              go_simp
              clear y3 y4 y5 y7 yf3 yf4 yf5 yf7
              have s0_ := hown.setLast (j := 7) (u := .bool true) (by rw [HMM.out]) rfl
              rw [HMM.out] at s0_
              simp only [List.set_cons_zero, List.set_cons_succ] at s0_
              have hg : World.grownBy X103 (X103.setCell ⟨g, m * 8 + 7, none⟩ (.bool true)) (some g) := only_setCell _ _ _
              replace klo := klo.own hown hg
              replace hall0 := hall0.own hown hg
              replace kl0 := kl0.own hown hg
              replace b8 := b8.own (v := .slice (some ⟨g, 0, none⟩) (m + 1) c9) hg hn8
              replace H0 := H0.trans (hown.trod hg H0.size)
              clear hown
              have hown := s0_
              clear hg s0_
              generalize hX : (X103.setCell ⟨g, m * 8 + 7, none⟩ (.bool true)) = X104 at klo hall0 kl0 hown H0 b8 ⊢
              clear hX
              refine hK.out _ _ (b8.all8) (fun hHeld => ?_)
              clear hK K
              (try simp only [getElem_toArray, getElem_cons_succ, getElem_cons_zero, Act.put, setIfInBounds_toArray, set_cons_zero, set_cons_succ])
              refine wpAnyH_done (by kernel_rfl) ?_ _
              refine NoPanic.normal ?_
              have hallN : SrL X104 L (css0 ++ [([.bool s10, .slice A10 n10 c10, .slice D10 m10 e10, .bool false, .slice none 0 0, .slice none 0 0, .bool f5, .bool true] : List Value)]) (out0 ++ [⟨s0_.lo, none⟩]) := All2.snoc hall0 ⟨_, _, _, _, _, _, _, _, _, _, _, _, _, _, _, _, rfl, kl0, .inr ⟨rfl, rfl⟩⟩
              have HLN : Hid ((css0 ++ [([.bool s10, .slice A10 n10 c10, .slice D10 m10 e10, .bool false, .slice none 0 0, .slice none 0 0, .bool f5, .bool true] : List Value)]).length = m + 1) := Lib.hid (by rw [List.length_append, HMM.out]; rfl)
              generalize css0 ++ [([.bool s10, .slice A10 n10 c10, .slice D10 m10 e10, .bool false, .slice none 0 0, .slice none 0 0, .bool f5, .bool true] : List Value)] = cssN at hown hallN HLN
              have hGN := HG.out
              rw [from_tt HM1.out, HHI.out] at hGN
              have HGN := Lib.hid hGN
              clear hGN b8 hn8 klo hall0 kl0
              go_wp2_with fail
              go_roundw
              case rel => exact ⟨i + 1, _, _, cssN, _, true, _, by omega, by go_num, by rw [HLN.out], by rw [HLN.out]; exact hown, hallN, by have h1 := HOL.out; simp at h1 ⊢; omega, HGN.out, .inr ⟨i, rfl, HM1.out, HHI.out.symm⟩, fun _ => by simp, H0⟩
              case measure => simp [intOf]; omega
    · obtain rfl : i = nm := by omega
      have HA := Lib.hid hall
      clear hpre hpo hall
      go_wp2_with fail
      go_ret
      refine ⟨_, rfl, ⟨_, hown.read, ?_⟩, H0⟩
      have h1 := HG.out
      rw [List.drop_of_length_le (l := ms) (by have := HN2.out; omega)] at h1
      rw [← h1]; exact HA.out
end
end Go.Proofs.YtpgkkkodniiilaaGreatDoor
