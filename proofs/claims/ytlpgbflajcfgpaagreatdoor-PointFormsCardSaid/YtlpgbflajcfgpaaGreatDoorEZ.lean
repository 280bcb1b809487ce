/-
  What only some of the statements need.
-/
import Derived.ProofKit
import Derived.LaidMore
import Derived.OpenShut
import Derived.Stop.Joined
import Derived.ChangeSlices
import Derived.ChangeSame
import Derived.SevenTiedAt
import Derived.LoopN
import Derived.Test.YtlpgbflajcfgpaaGreatDoorB1
import Derived.Test.YtlpgbflajcfgpaaGreatDoorCut
import Derived.Test.YtlpgbflajcfgpaaGreatDoorDivLong
import Derived.Test.YtlpgbflajcfgpaaGreatDoorE1
import Derived.Test.YtlpgbflajcfgpaaGreatDoorE2
import Derived.Test.YtlpgbflajcfgpaaGreatDoorE3
import Derived.Test.YtlpgbflajcfgpaaGreatDoorE4
import Derived.Test.YtlpgbflajcfgpaaGreatDoorEY
import Derived.Test.YtlpgbflajcfgpaaGreatDoorFormI
import Derived.Test.YtlpgbflajcfgpaaGreatDoorK1
import Derived.Test.YtlpgbflajcfgpaaGreatDoorK10
import Derived.Test.YtlpgbflajcfgpaaGreatDoorK11
import Derived.Test.YtlpgbflajcfgpaaGreatDoorK2
import Derived.Test.YtlpgbflajcfgpaaGreatDoorK3
import Derived.Test.YtlpgbflajcfgpaaGreatDoorK4
import Derived.Test.YtlpgbflajcfgpaaGreatDoorK5
import Derived.Test.YtlpgbflajcfgpaaGreatDoorK6
import Derived.Test.YtlpgbflajcfgpaaGreatDoorK7
import Derived.Test.YtlpgbflajcfgpaaGreatDoorK8
import Derived.Test.YtlpgbflajcfgpaaGreatDoorK9
import Derived.Test.YtlpgbflajcfgpaaGreatDoorL8
import Derived.Test.YtlpgbflajcfgpaaGreatDoorLaid5
import Derived.Test.YtlpgbflajcfgpaaGreatDoorN1
import Derived.Test.YtlpgbflajcfgpaaGreatDoorOrd
import Derived.Test.YtlpgbflajcfgpaaGreatDoorPhase
import Derived.Test.YtlpgbflajcfgpaaGreatDoorPtA
import Derived.Test.YtlpgbflajcfgpaaGreatDoorPtC
import Derived.Test.YtlpgbflajcfgpaaGreatDoorPtG
import Derived.Test.YtlpgbflajcfgpaaGreatDoorPtK
import Derived.Test.YtlpgbflajcfgpaaGreatDoorPtR
import Derived.Test.YtlpgbflajcfgpaaGreatDoorR1
import Derived.Test.YtlpgbflajcfgpaaGreatDoorRatA
import Derived.Test.YtlpgbflajcfgpaaGreatDoorRatC
import Derived.Test.YtlpgbflajcfgpaaGreatDoorRatD
import Derived.Test.YtlpgbflajcfgpaaGreatDoorRatP
import Derived.Test.YtlpgbflajcfgpaaGreatDoorRatR
import Derived.Test.YtlpgbflajcfgpaaGreatDoorRatS
import Derived.Test.YtlpgbflajcfgpaaGreatDoorReads
import Derived.Test.YtlpgbflajcfgpaaGreatDoorS1
import Derived.Test.YtlpgbflajcfgpaaGreatDoorShelf
import Derived.Test.YtlpgbflajcfgpaaGreatDoorT1
import Derived.Test.YtlpgbflajcfgpaaGreatDoorT2
import Derived.Test.YtlpgbflajcfgpaaGreatDoorTextQ
import Derived.Test.YtlpgbflajcfgpaaGreatDoorX1
namespace Go.Proofs.YtlpgbflajcfgpaaGreatDoor
open Go.ChangeShapes Go.WideShapes Go.ChangeAt Go.WideMaps Go.WideElems Go.RowKit

section
variable {H : Type} {enc : TypeId × Value → H} {P : Program}
end

theorem Tryz.cells_u32 : Tryz.prog.cellsOf 97 = 1 := by kernel_rfl
end Go.Proofs.YtlpgbflajcfgpaaGreatDoor
namespace Go.Proofs.YtlpgbflajcfgpaaGreatDoor
open Go.RowKit

/-- Whether the last digit is not 0. -/
def normB (ds : List Nat) : Bool := ds.length == 0 || ds.getD (ds.length - 1) 0 != 0

section
variable {A A' : Option Addr} {n n' c c' x y L L' : Nat} {ds : List Nat} {w : World}
set_option maxRecDepth 100000 in
theorem normal_any (h : Raw w (.slice A n c) ds) :
    Calls Tryz.prog 108 #[.slice A n c] w fun e w' => e = .returned (.bool (normB ds)) ∧ w = w' := by
  have hn := h.cap.1
  have hl := h.len
  rcases Nat.eq_zero_or_pos ds.length with h0 | h0
  · have hb : normB ds = true := by unfold normB; rw [h0]; rfl
    have hn0 : n = 0 := by omega
    subst hn0
    rw [hb]
    clear h hn hb h0 hl
    go_enter Tryz.func108, Tryz.ntmps108
    go_wp2_with fail
    go_ret
    exact ⟨rfl, rfl⟩
  · obtain ⟨ad, hA, _, hc⟩ := h.at_ (j := ds.length - 1) (by omega)
    subst hA
    obtain ⟨m, hm⟩ : ∃ m, ds.length = m + 1 := ⟨ds.length - 1, by omega⟩
    rw [hm, Nat.add_sub_cancel] at hc
    have hn1 : n = m + 1 := by omega
    subst hn1
    obtain ⟨d, hd⟩ : ∃ d, ds.getD m 0 = d := ⟨_, rfl⟩
    rw [hd] at hc
    have hb : normB ds = (d != 0) := by unfold normB; rw [hm, Nat.add_sub_cancel, hd]; simp
    have h00 : ((m : Int) + 1 == 0) = false := by rw [beq_eq_false_iff_ne]; omega
    have hm9 : m + 1 ≤ 1000000000 := by omega
    have HB := Lib.hid hb
    clear h hn hb h0 hl hm hd
    by_cases hz : d = 0
    · subst hz
      go_enter Tryz.func108, Tryz.ntmps108
      go_wp2_with fail
      go_ret
      exact ⟨by rw [HB.out]; rfl, rfl⟩
    · have hdz : ((d : Int) != 0) = true := by rw [bne_iff_ne]; omega
      have hres : (d != 0) = true := by rw [bne_iff_ne]; exact hz
      have HR := Lib.hid hres
      clear hres hz
      go_enter Tryz.func108, Tryz.ntmps108
      go_wp2_with fail
      go_ret
      exact ⟨by rw [HB.out, HR.out]; rfl, rfl⟩
end
end Go.Proofs.YtlpgbflajcfgpaaGreatDoor
namespace Go.Proofs.YtlpgbflajcfgpaaGreatDoor
open Go.RowKit

section
variable {A : Option Addr} {n c L : Nat} {s : Bool} {z : Int} {w : World} {ds : List Nat}
/-- Whether an integer of these digits is in normal form. -/
def normIB (s : Bool) (ds : List Nat) : Bool := normB ds && !(s && ds.length == 0)
set_option maxRecDepth 100000 in
theorem inormal_v (h : Raw w (.slice A n c) ds) :
    Calls Tryz.prog 107 #[.agg #[.bool s, .slice A n c]] w fun e w' => e = .returned (.bool (normIB s ds)) ∧ Below w.heap.size w w' := by
  have hn := h.cap.1
  obtain ⟨b, hb⟩ : ∃ b, normB ds = b := ⟨_, rfl⟩
  have hr : normIB s ds = (b && !(s && n == 0)) := by unfold normIB; rw [hb, hn]
  have HB := Lib.hid hb
  rw [hr]
  clear hr hn hb
  rcases Nat.eq_zero_or_pos n with rfl | hn0
  · cases b <;> cases s
    all_goals
      go_enter Tryz.func107, Tryz.ntmps107
      go_wp2_with fail
      obtain ⟨W, hW, b0, hbW, hsW⟩ := boxes1 w #[.bool _, .slice A 0 c] 25
      rw [hW]
      have c0 := b0.cell 0 _ rfl
      have c1 := b0.cell 1 _ rfl
      clear hW
      refine (normal_any (h.below hbW)).mono ?_
      rintro e w' ⟨rfl, rfl⟩
      rw [HB.out]
      go_wp2_with fail
      go_returns
      exact ⟨rfl, hbW⟩
  · have hn1 : ((n : Int) == 0) = false := by rw [beq_eq_false_iff_ne]; omega
    have hn2 : (n == 0) = false := by rw [beq_eq_false_iff_ne]; omega
    have hr : (b && !(s && n == 0)) = b := by rw [hn2]; simp
    rw [hr]
    clear hr hn2 hn0
    cases b <;> cases s
    all_goals
      go_enter Tryz.func107, Tryz.ntmps107
      go_wp2_with fail
      obtain ⟨W, hW, b0, hbW, hsW⟩ := boxes1 w #[.bool _, .slice A n c] 25
      rw [hW]
      have c0 := b0.cell 0 _ rfl
      have c1 := b0.cell 1 _ rfl
      clear hW
      refine (normal_any (h.below hbW)).mono ?_
      rintro e w' ⟨rfl, rfl⟩
      rw [HB.out]
      go_wp2_with fail
      go_returns
      exact ⟨rfl, hbW⟩
end
end Go.Proofs.YtlpgbflajcfgpaaGreatDoor
namespace Go.Proofs.YtlpgbflajcfgpaaGreatDoor
open Go.RowKit

section
variable {A0 A1 A2 A3 D0 D1 D2 D3 : Option Addr} {n0 n1 n2 n3 c0 c1 c2 c3 m0 m1 m2 m3 e0 e1 e2 e3 : Nat} {s0 s1 s2 s3 : Bool} {z z' z0 z1 z2 : Int} {q q' q0 q1 q2 : Rat} {L L0 L1 L2 x x0 x1 y : Nat} {k : Int} {w : World}
theorem normal_b {ds : List Nat} (h : Raw w (.slice A0 n0 c0) ds) :
    Calls Tryz.prog 108 #[.slice A0 n0 c0] w fun e w' => e = .returned (.bool (normB ds)) ∧ Below w.heap.size w w' := by
  refine (normal_any h).mono ?_
  rintro e w' ⟨rfl, rfl⟩
  exact ⟨rfl, Below.refl _ w⟩
/-- Whether a rational number of these digits is in normal form. -/
def normQB (s : Bool) (ds es : List Nat) : Bool := normIB s ds && (normB es && (!decide (val es = 0) && decide (Nat.gcd (val ds) (val es) = 1)))
set_option maxRecDepth 100000 in
set_option maxHeartbeats 800000 in
theorem rnormal_r {ds es : List Nat} (h : Raw w (.slice A0 n0 c0) ds) (h' : Raw w (.slice D0 m0 e0) es) (hl : ds.length ≤ 1000000) (hl' : es.length ≤ 1000000) :
    Calls Tryz.prog 60 #[.agg #[.bool s0, .slice A0 n0 c0, .slice D0 m0 e0]] w fun e w' => e = .returned (.bool (normQB s0 ds es)) ∧ Below w.heap.size w w' := by
  unfold normQB
  obtain ⟨b1, hb1⟩ : ∃ b, normIB s0 ds = b := ⟨_, rfl⟩
  obtain ⟨b2, hb2⟩ : ∃ b, normB es = b := ⟨_, rfl⟩
  obtain ⟨b3, hb3⟩ : ∃ b, decide (val es = 0) = b := ⟨_, rfl⟩
  obtain ⟨b4, hb4⟩ : ∃ b, decide (Nat.gcd (val ds) (val es) = 1) = b := ⟨_, rfl⟩
  rw [hb1, hb2, hb3, hb4]
  have HI := Lib.hid hb1
  have HN := Lib.hid hb2
  have HZ := Lib.hid hb3
  have HO := Lib.hid hb4
  clear hb1 hb2 hb3 hb4
  cases b1
  · skip
    go_enter Tryz.func60, Tryz.ntmps60
    go_wp2_with fail
    obtain ⟨W0, hW, b0, hbW, hszW0⟩ := boxes1 w #[.bool s0, .slice A0 n0 c0, .slice D0 m0 e0] 27
    rw [hW]
    clear hW
    replace h := h.below hbW
    replace h' := h'.below hbW
    have H0 := hbW
    clear hbW
    have cb00 := b0.cell 0 _ rfl
    have cb01 := b0.cell 1 _ rfl
    have cb02 := b0.cell 2 _ rfl
    go_wp2_with fail
    clear cb00 cb01 cb02
    refine (inormal_v h).mono ?_
    rintro e w1 ⟨rfl, hb⟩
    replace h := h.below hb
    replace h' := h'.below hb
    replace b0 := b0.below hb
    replace H0 := H0.trans (hb.mono H0.size)
    clear hb
    rw [HI.out]
    have cb00 := b0.cell 0 _ rfl
    have cb01 := b0.cell 1 _ rfl
    have cb02 := b0.cell 2 _ rfl
    go_wp2_with fail
    go_returns
    exact ⟨rfl, H0⟩
  cases b2
  · skip
    go_enter Tryz.func60, Tryz.ntmps60
    go_wp2_with fail
    obtain ⟨W0, hW, b0, hbW, hszW0⟩ := boxes1 w #[.bool s0, .slice A0 n0 c0, .slice D0 m0 e0] 27
    rw [hW]
    clear hW
    replace h := h.below hbW
    replace h' := h'.below hbW
    have H0 := hbW
    clear hbW
    have cb00 := b0.cell 0 _ rfl
    have cb01 := b0.cell 1 _ rfl
    have cb02 := b0.cell 2 _ rfl
    go_wp2_with fail
    clear cb00 cb01 cb02
    refine (inormal_v h).mono ?_
    rintro e w1 ⟨rfl, hb⟩
    replace h := h.below hb
    replace h' := h'.below hb
    replace b0 := b0.below hb
    replace H0 := H0.trans (hb.mono H0.size)
    clear hb
    rw [HI.out]
    have cb00 := b0.cell 0 _ rfl
    have cb01 := b0.cell 1 _ rfl
    have cb02 := b0.cell 2 _ rfl
    go_wp2_with fail
    clear cb00 cb01 cb02
    refine (normal_b h').mono ?_
    rintro e w2 ⟨rfl, hb⟩
    replace h := h.below hb
    replace h' := h'.below hb
    replace b0 := b0.below hb
    replace H0 := H0.trans (hb.mono H0.size)
    clear hb
    rw [HN.out]
    have cb00 := b0.cell 0 _ rfl
    have cb01 := b0.cell 1 _ rfl
    have cb02 := b0.cell 2 _ rfl
    go_wp2_with fail
    go_returns
    exact ⟨rfl, H0⟩
  cases b3
  · skip
    go_enter Tryz.func60, Tryz.ntmps60
    go_wp2_with fail
    obtain ⟨W0, hW, b0, hbW, hszW0⟩ := boxes1 w #[.bool s0, .slice A0 n0 c0, .slice D0 m0 e0] 27
    rw [hW]
    clear hW
    replace h := h.below hbW
    replace h' := h'.below hbW
    have H0 := hbW
    clear hbW
    have cb00 := b0.cell 0 _ rfl
    have cb01 := b0.cell 1 _ rfl
    have cb02 := b0.cell 2 _ rfl
    go_wp2_with fail
    clear cb00 cb01 cb02
    refine (inormal_v h).mono ?_
    rintro e w1 ⟨rfl, hb⟩
    replace h := h.below hb
    replace h' := h'.below hb
    replace b0 := b0.below hb
    replace H0 := H0.trans (hb.mono H0.size)
    clear hb
    rw [HI.out]
    have cb00 := b0.cell 0 _ rfl
    have cb01 := b0.cell 1 _ rfl
    have cb02 := b0.cell 2 _ rfl
    go_wp2_with fail
    clear cb00 cb01 cb02
    refine (normal_b h').mono ?_
    rintro e w2 ⟨rfl, hb⟩
    replace h := h.below hb
    replace h' := h'.below hb
    replace b0 := b0.below hb
    replace H0 := H0.trans (hb.mono H0.size)
    clear hb
    rw [HN.out]
    have cb00 := b0.cell 0 _ rfl
    have cb01 := b0.cell 1 _ rfl
    have cb02 := b0.cell 2 _ rfl
    go_wp2_with fail
    clear cb00 cb01 cb02
    refine (riszero_v h'.rv HZ.out).mono ?_
    rintro e w3 ⟨rfl, hb⟩
    replace h := h.below hb
    replace h' := h'.below hb
    replace b0 := b0.below hb
    replace H0 := H0.trans (hb.mono H0.size)
    clear hb
    have cb00 := b0.cell 0 _ rfl
    have cb01 := b0.cell 1 _ rfl
    have cb02 := b0.cell 2 _ rfl
    go_wp2_with fail
    clear cb00 cb01 cb02
    refine (gcd_v h.rv h'.rv (by omega) (by omega)).mono ?_
    rintro e w4 ⟨A2, n2, c2, rfl, fg, hb⟩
    replace h := h.below hb
    replace h' := h'.below hb
    replace b0 := b0.below hb
    replace H0 := H0.trans (hb.mono H0.size)
    clear hb
    go_wp2_with fail
    refine (risone_v fg.rv HO.out).mono ?_
    rintro e w5 ⟨rfl, hb⟩
    replace h := h.below hb
    replace h' := h'.below hb
    replace fg := fg.below hb
    replace b0 := b0.below hb
    replace H0 := H0.trans (hb.mono H0.size)
    clear hb
    go_wp2_with fail
    go_returns
    exact ⟨rfl, H0⟩
  · skip
    go_enter Tryz.func60, Tryz.ntmps60
    go_wp2_with fail
    obtain ⟨W0, hW, b0, hbW, hszW0⟩ := boxes1 w #[.bool s0, .slice A0 n0 c0, .slice D0 m0 e0] 27
    rw [hW]
    clear hW
    replace h := h.below hbW
    replace h' := h'.below hbW
    have H0 := hbW
    clear hbW
    have cb00 := b0.cell 0 _ rfl
    have cb01 := b0.cell 1 _ rfl
    have cb02 := b0.cell 2 _ rfl
    go_wp2_with fail
    clear cb00 cb01 cb02
    refine (inormal_v h).mono ?_
    rintro e w1 ⟨rfl, hb⟩
    replace h := h.below hb
    replace h' := h'.below hb
    replace b0 := b0.below hb
    replace H0 := H0.trans (hb.mono H0.size)
    clear hb
    rw [HI.out]
    have cb00 := b0.cell 0 _ rfl
    have cb01 := b0.cell 1 _ rfl
    have cb02 := b0.cell 2 _ rfl
    go_wp2_with fail
    clear cb00 cb01 cb02
    refine (normal_b h').mono ?_
    rintro e w2 ⟨rfl, hb⟩
    replace h := h.below hb
    replace h' := h'.below hb
    replace b0 := b0.below hb
    replace H0 := H0.trans (hb.mono H0.size)
    clear hb
    rw [HN.out]
    have cb00 := b0.cell 0 _ rfl
    have cb01 := b0.cell 1 _ rfl
    have cb02 := b0.cell 2 _ rfl
    go_wp2_with fail
    clear cb00 cb01 cb02
    refine (riszero_v h'.rv HZ.out).mono ?_
    rintro e w3 ⟨rfl, hb⟩
    replace h := h.below hb
    replace h' := h'.below hb
    replace b0 := b0.below hb
    replace H0 := H0.trans (hb.mono H0.size)
    clear hb
    have cb00 := b0.cell 0 _ rfl
    have cb01 := b0.cell 1 _ rfl
    have cb02 := b0.cell 2 _ rfl
    go_wp2_with fail
    go_returns
    exact ⟨rfl, H0⟩
theorem normB_iff {ds : List Nat} : normB ds = true ↔ Nrm ds := by
  unfold normB Nrm
  rw [List.getLast?_eq_getElem?, List.getD_eq_getElem?_getD]
  rcases Nat.eq_zero_or_pos ds.length with h | h
  · have h1 : ds = [] := List.eq_nil_of_length_eq_zero h
    subst h1; simp
  · have h1 : (ds.length == 0) = false := by rw [beq_eq_false_iff_ne]; omega
    have h2 : ds[ds.length - 1]? = some (ds[ds.length - 1]'(by omega)) := List.getElem?_eq_getElem _
    rw [h1, h2]; simp
theorem normq_eq {ds es : List Nat} {s : Bool} (h : OkD ds) (h' : OkD es) (hq : q = mkRat (sg s (val ds)) (val es)) :
    (((decide (s = decide (q.num < 0)) && decide (ds = digs q.num.natAbs)) && decide (es = digs q.den)) && decide (0 < es.length)) = normQB s ds es := by
  rw [Bool.eq_iff_iff]
  unfold normQB normIB
  simp only [Bool.and_eq_true, decide_eq_true_eq, normB_iff, Bool.not_eq_true', decide_eq_false_iff_not]
  constructor
  · rintro ⟨⟨⟨h1, h2⟩, h3⟩, h4⟩
    have e1 : val ds = q.num.natAbs := by rw [h2, val_digs]
    have e2 : val es = q.den := by rw [h3, val_digs]
    refine ⟨⟨by rw [h2]; exact nrm_digs _, ?_⟩, by rw [h3]; exact nrm_digs _, by rw [e2]; exact q.den_nz, by rw [e1, e2]; exact q.reduced⟩
    rw [h1]
    by_cases hn : q.num < 0
    · have h5 := digs_length_pos (x := q.num.natAbs) (by omega)
      rw [← h2] at h5
      have h6 : (ds.length == 0) = false := by rw [beq_eq_false_iff_ne]; omega
      rw [h6]; simp
    · rw [decide_eq_false hn]; simp
  · rintro ⟨⟨h1, h2⟩, h3, h4, h5⟩
    have hg : Nat.gcd (sg s (val ds)).natAbs (val es) = 1 := by
      have e : (sg s (val ds)).natAbs = val ds := by cases s <;> simp [sg]
      rw [e]; exact h5
    have e1 : q.num = sg s (val ds) := by rw [hq, mk_num h4, hg]; simp
    have e2 : q.den = val es := by rw [hq, mk_den h4, hg]; simp
    have e3 : q.num.natAbs = val ds := by rw [e1]; cases s <;> simp [sg]
    have hp : 0 < es.length := by
      rcases es with _ | ⟨d, t⟩
      · exact absurd rfl h4
      · simp
    refine ⟨⟨⟨?_, by rw [e3, digs_val h h1]⟩, by rw [e2, digs_val h' h3]⟩, hp⟩
    rw [e1]
    cases s
    · rw [sg_false]; simp
    · rw [sg_true]
      have hd : ds ≠ [] := by rintro rfl; simp at h2
      have := val_pos_of_nrm h1 hd
      simp; omega
theorem NQ.raw1 {v u : Value} (h : NQ w s0 v u q L) : Raw w v (digs q.num.natAbs) := h.1.1.1
theorem NQ.raw2 {v u : Value} (h : NQ w s0 v u q L) : Raw w u (digs q.den) := h.2.1
theorem sameq_n {ds es : List Nat} {b : Bool} (h : Raw w (.slice A0 n0 c0) ds) (h' : Raw w (.slice D0 m0 e0) es) (h3 : NQ w s1 (.slice A1 n1 c1) (.slice D1 m1 e1) q L) (hb : ((decide (s0 = decide (q.num < 0)) && decide (ds = digs q.num.natAbs)) && decide (es = digs q.den)) = b) :
    Calls Tryz.prog 28 #[.agg #[.bool s0, .slice A0 n0 c0, .slice D0 m0 e0], .agg #[.bool s1, .slice A1 n1 c1, .slice D1 m1 e1]] w fun e w' => e = .returned (.bool b) ∧ Below w.heap.size w w' := by
  subst hb
  rw [← h3.1.2]
  exact sameq_r h h' h3.raw1 h3.raw2
set_option maxRecDepth 100000 in
set_option maxHeartbeats 800000 in
theorem normalq_r {ds es : List Nat} (h : Raw w (.slice A0 n0 c0) ds) (h' : Raw w (.slice D0 m0 e0) es) (hl : ds.length ≤ 900) (hl' : es.length ≤ 900) :
    Calls Tryz.prog 61 #[.agg #[.bool s0, .slice A0 n0 c0, .slice D0 m0 e0]] w fun e w' => e = .returned (.bool (normQB s0 ds es)) ∧ Below w.heap.size w w' := by
  obtain ⟨L, hL1, hL2, hL⟩ : ∃ L, ds.length ≤ L ∧ es.length ≤ L ∧ L ≤ 900 := ⟨max ds.length es.length, by omega, by omega, by omega⟩
  have hr : RQ w s0 (.slice A0 n0 c0) (.slice D0 m0 e0) (mkRat (sg s0 (val ds)) (val es)) L := ⟨_, _, ⟨_, h.rv.more hL1, rfl⟩, h'.rv.more hL2, rfl⟩
  have HE := Lib.hid (normq_eq (s := s0) h.okD h'.okD rfl)
  have HM := Lib.hid h'.cap.1
  generalize mkRat (sg s0 (val ds)) (val es) = q at HE hr
  obtain ⟨b, hb⟩ : ∃ b, ((decide (s0 = decide (q.num < 0)) && decide (ds = digs q.num.natAbs)) && decide (es = digs q.den)) = b := ⟨_, rfl⟩
  have HB := Lib.hid hb
  clear hl hl' hL1 hL2 hb
  cases b
  · skip
    go_enter Tryz.func61, Tryz.ntmps61
    go_wp2_with fail
    obtain ⟨W0, hW, b0, hbW, hszW0⟩ := boxes1 w #[.bool s0, .slice A0 n0 c0, .slice D0 m0 e0] 27
    rw [hW]
    clear hW
    replace h := h.below hbW
    replace h' := h'.below hbW
    replace hr := hr.below hbW
    have H0 := hbW
    clear hbW
    have hD := drawn_below W0
    replace h := h.below hD
    replace h' := h'.below hD
    replace hr := hr.below hD
    replace b0 := b0.below hD
    replace H0 := H0.trans (hD.mono H0.size)
    clear hD
    refine wp_region_noPanic ?_
    refine wp_region_held_drew (S := (fun V => V.cell? ⟨w.heap.size, 0, none⟩ = some (.bool s0) ∧ V.cell? ⟨w.heap.size, 1, none⟩ = some (.slice A0 n0 c0) ∧ V.cell? ⟨w.heap.size, 2, none⟩ = some (.slice D0 m0 e0))) (by kernel_rfl) ⟨b0.cell 0 _ rfl, b0.cell 1 _ rfl, b0.cell 2 _ rfl⟩ (fun hHeld => ?_)
    generalize W0.drew = v1 at H0 hHeld h h' hr b0 ⊢
    refine wpAnyH_take (i := 0) (v := ?_) rfl (by kernel_rfl) (by kernel_rfl) (by kernel_rfl) (fun _ _ _ h => h) (Or.inl ⟨by rfl, ?_⟩) (by assumption) ?_
    rotate_left
    · (intro w hSw; (try dsimp only at hSw); go_simp; (try with_reducible rfl))
    (try simp only [List.getElem_toArray, List.getElem_cons_zero, Act.put, List.setIfInBounds_toArray, List.set_cons_zero, List.set_cons_succ])
    refine wpAnyH_take (i := 1) (v := ?_) rfl (by kernel_rfl) (by kernel_rfl) (by kernel_rfl) (fun _ _ _ h => h) (Or.inl ⟨by rfl, ?_⟩) (by assumption) ?_
    rotate_left
    · (intro w hSw; (try dsimp only at hSw); go_simp; (try with_reducible rfl))
    (try simp only [List.getElem_toArray, List.getElem_cons_succ, List.getElem_cons_zero, Act.put, List.setIfInBounds_toArray, List.set_cons_zero, List.set_cons_succ])
    refine wpAnyH_ready (rs := [2]) (by kernel_rfl) (by simp) (AllReadyH.cons (o := _) rfl (fun K hK => ?_) AllReadyH.nil)
    go_simp
    go_at_call 50
    refine (refq_v hr (by omega)).mono ?_
    rintro e w2 ⟨s2, A2, n2, c2, D2, m2, e2, rfl, f2, hb⟩
    replace h := h.below hb
    replace h' := h'.below hb
    replace hr := hr.below hb
    replace b0 := b0.below hb
    replace H0 := H0.trans (hb.mono H0.size)
    clear hb
    clear hr
    go_wp2_with fail
    refine hK.out _ _ ⟨b0.cell 0 _ rfl, b0.cell 1 _ rfl, b0.cell 2 _ rfl⟩ (fun hHeld => ?_)
    clear hK K
    (try simp only [List.getElem_toArray, List.getElem_cons_succ, List.getElem_cons_zero, Act.put, List.setIfInBounds_toArray, List.set_cons_zero, List.set_cons_succ])
    refine wpAnyH_ready (rs := [3]) (by kernel_rfl) (by simp) (AllReadyH.cons (o := _) rfl (fun K hK => ?_) AllReadyH.nil)
    go_simp
    go_at_call 30
    refine (toq_v f2 (by omega)).mono ?_
    rintro e w3 ⟨s3, A3, n3, c3, D3, m3, e3, rfl, f3, hb⟩
    replace h := h.below hb
    replace h' := h'.below hb
    replace f2 := f2.below hb
    replace b0 := b0.below hb
    replace H0 := H0.trans (hb.mono H0.size)
    clear hb
    clear f2
    go_wp2_with fail
    refine hK.out _ _ ⟨b0.cell 0 _ rfl, b0.cell 1 _ rfl, b0.cell 2 _ rfl⟩ (fun hHeld => ?_)
    clear hK K
    (try simp only [List.getElem_toArray, List.getElem_cons_succ, List.getElem_cons_zero, Act.put, List.setIfInBounds_toArray, List.set_cons_zero, List.set_cons_succ])
    refine wpAnyH_ready (rs := [4]) (by kernel_rfl) (by simp) (AllReadyH.cons (o := _) rfl (fun K hK => ?_) AllReadyH.nil)
    go_simp
    go_at_call 28
    refine (sameq_n h h' f3 HB.out).mono ?_
    rintro e w4 ⟨rfl, hb⟩
    replace h := h.below hb
    replace h' := h'.below hb
    replace f3 := f3.below hb
    replace b0 := b0.below hb
    replace H0 := H0.trans (hb.mono H0.size)
    clear hb
    clear f3
    go_wp2_with fail
    refine hK.out _ _ ⟨b0.cell 0 _ rfl, b0.cell 1 _ rfl, b0.cell 2 _ rfl⟩ (fun hHeld => ?_)
    clear hK K
    (try simp only [List.getElem_toArray, List.getElem_cons_succ, List.getElem_cons_zero, Act.put, List.setIfInBounds_toArray, List.set_cons_zero, List.set_cons_succ])
    refine wpAnyH_take (i := 5) (v := ?_) rfl (by kernel_rfl) (by kernel_rfl) (by kernel_rfl) (fun _ _ _ h => h) (Or.inl ⟨by rfl, ?_⟩) (by assumption) ?_
    rotate_left
    · (intro w hSw; (try dsimp only at hSw); go_simp; (try with_reducible rfl))
    (try simp only [List.getElem_toArray, List.getElem_cons_succ, List.getElem_cons_zero, Act.put, List.setIfInBounds_toArray, List.set_cons_zero, List.set_cons_succ])
    refine wpAnyH_take (i := 6) (v := undef) rfl (by kernel_rfl) (by kernel_rfl) (by kernel_rfl) (fun _ _ _ h => h) (Or.inr ⟨by rfl, rfl⟩) (by assumption) ?_
    (try simp only [List.getElem_toArray, List.getElem_cons_succ, List.getElem_cons_zero, Act.put, List.setIfInBounds_toArray, List.set_cons_zero, List.set_cons_succ])
    refine wpAnyH_take (i := 7) (v := undef) rfl (by kernel_rfl) (by kernel_rfl) (by kernel_rfl) (fun _ _ _ h => h) (Or.inr ⟨by rfl, rfl⟩) (by assumption) ?_
    (try simp only [List.getElem_toArray, List.getElem_cons_succ, List.getElem_cons_zero, Act.put, List.setIfInBounds_toArray, List.set_cons_zero, List.set_cons_succ])
    refine wpAnyH_take (i := 8) (v := undef) rfl (by kernel_rfl) (by kernel_rfl) (by kernel_rfl) (fun _ _ _ h => h) (Or.inr ⟨by rfl, rfl⟩) (by assumption) ?_
    (try simp only [List.getElem_toArray, List.getElem_cons_succ, List.getElem_cons_zero, Act.put, List.setIfInBounds_toArray, List.set_cons_zero, List.set_cons_succ])
    refine wpAnyH_take (i := 9) (v := undef) rfl (by kernel_rfl) (by kernel_rfl) (by kernel_rfl) (fun _ _ _ h => h) (Or.inr ⟨by rfl, rfl⟩) (by assumption) ?_
    (try simp only [List.getElem_toArray, List.getElem_cons_succ, List.getElem_cons_zero, Act.put, List.setIfInBounds_toArray, List.set_cons_zero, List.set_cons_succ])
    refine wpAnyH_take (i := 10) (v := ?_) rfl (by kernel_rfl) (by kernel_rfl) (by kernel_rfl) (fun _ _ _ h => h) (Or.inl ⟨by rfl, ?_⟩) (by assumption) ?_
    rotate_left
    · (intro w hSw; (try dsimp only at hSw); go_simp; (try with_reducible rfl))
    (try simp only [List.getElem_toArray, List.getElem_cons_succ, List.getElem_cons_zero, Act.put, List.setIfInBounds_toArray, List.set_cons_zero, List.set_cons_succ])
    refine wpAnyH_take (i := 11) (v := ?_) rfl (by kernel_rfl) (by kernel_rfl) (by kernel_rfl) (fun _ _ _ h => h) (Or.inl ⟨by rfl, ?_⟩) (by assumption) ?_
    rotate_left
    · (intro w hSw; (try dsimp only at hSw); go_simp; (try with_reducible rfl))
    (try simp only [List.getElem_toArray, List.getElem_cons_succ, List.getElem_cons_zero, Act.put, List.setIfInBounds_toArray, List.set_cons_zero, List.set_cons_succ])
    refine wpAnyH_done (by kernel_rfl) ?_ _
    refine NoPanic.normal ?_
    go_wp2_with fail
    go_returns
    exact ⟨by rw [← HE.out, HB.out, HM.out]; rfl, H0⟩
  · skip
    go_enter Tryz.func61, Tryz.ntmps61
    go_wp2_with fail
    obtain ⟨W0, hW, b0, hbW, hszW0⟩ := boxes1 w #[.bool s0, .slice A0 n0 c0, .slice D0 m0 e0] 27
    rw [hW]
    clear hW
    replace h := h.below hbW
    replace h' := h'.below hbW
    replace hr := hr.below hbW
    have H0 := hbW
    clear hbW
    have hD := drawn_below W0
    replace h := h.below hD
    replace h' := h'.below hD
    replace hr := hr.below hD
    replace b0 := b0.below hD
    replace H0 := H0.trans (hD.mono H0.size)
    clear hD
    refine wp_region_noPanic ?_
    refine wp_region_held_drew (S := (fun V => V.cell? ⟨w.heap.size, 0, none⟩ = some (.bool s0) ∧ V.cell? ⟨w.heap.size, 1, none⟩ = some (.slice A0 n0 c0) ∧ V.cell? ⟨w.heap.size, 2, none⟩ = some (.slice D0 m0 e0))) (by kernel_rfl) ⟨b0.cell 0 _ rfl, b0.cell 1 _ rfl, b0.cell 2 _ rfl⟩ (fun hHeld => ?_)
    generalize W0.drew = v1 at H0 hHeld h h' hr b0 ⊢
    refine wpAnyH_take (i := 0) (v := ?_) rfl (by kernel_rfl) (by kernel_rfl) (by kernel_rfl) (fun _ _ _ h => h) (Or.inl ⟨by rfl, ?_⟩) (by assumption) ?_
    rotate_left
    · (intro w hSw; (try dsimp only at hSw); go_simp; (try with_reducible rfl))
    (try simp only [List.getElem_toArray, List.getElem_cons_zero, Act.put, List.setIfInBounds_toArray, List.set_cons_zero, List.set_cons_succ])
    refine wpAnyH_take (i := 1) (v := ?_) rfl (by kernel_rfl) (by kernel_rfl) (by kernel_rfl) (fun _ _ _ h => h) (Or.inl ⟨by rfl, ?_⟩) (by assumption) ?_
    rotate_left
    · (intro w hSw; (try dsimp only at hSw); go_simp; (try with_reducible rfl))
    (try simp only [List.getElem_toArray, List.getElem_cons_succ, List.getElem_cons_zero, Act.put, List.setIfInBounds_toArray, List.set_cons_zero, List.set_cons_succ])
    refine wpAnyH_ready (rs := [2]) (by kernel_rfl) (by simp) (AllReadyH.cons (o := _) rfl (fun K hK => ?_) AllReadyH.nil)
    go_simp
    go_at_call 50
    refine (refq_v hr (by omega)).mono ?_
    rintro e w2 ⟨s2, A2, n2, c2, D2, m2, e2, rfl, f2, hb⟩
    replace h := h.below hb
    replace h' := h'.below hb
    replace hr := hr.below hb
    replace b0 := b0.below hb
    replace H0 := H0.trans (hb.mono H0.size)
    clear hb
    clear hr
    go_wp2_with fail
    refine hK.out _ _ ⟨b0.cell 0 _ rfl, b0.cell 1 _ rfl, b0.cell 2 _ rfl⟩ (fun hHeld => ?_)
    clear hK K
    (try simp only [List.getElem_toArray, List.getElem_cons_succ, List.getElem_cons_zero, Act.put, List.setIfInBounds_toArray, List.set_cons_zero, List.set_cons_succ])
    refine wpAnyH_ready (rs := [3]) (by kernel_rfl) (by simp) (AllReadyH.cons (o := _) rfl (fun K hK => ?_) AllReadyH.nil)
    go_simp
    go_at_call 30
    refine (toq_v f2 (by omega)).mono ?_
    rintro e w3 ⟨s3, A3, n3, c3, D3, m3, e3, rfl, f3, hb⟩
    replace h := h.below hb
    replace h' := h'.below hb
    replace f2 := f2.below hb
    replace b0 := b0.below hb
    replace H0 := H0.trans (hb.mono H0.size)
    clear hb
    clear f2
    go_wp2_with fail
    refine hK.out _ _ ⟨b0.cell 0 _ rfl, b0.cell 1 _ rfl, b0.cell 2 _ rfl⟩ (fun hHeld => ?_)
    clear hK K
    (try simp only [List.getElem_toArray, List.getElem_cons_succ, List.getElem_cons_zero, Act.put, List.setIfInBounds_toArray, List.set_cons_zero, List.set_cons_succ])
    refine wpAnyH_ready (rs := [4]) (by kernel_rfl) (by simp) (AllReadyH.cons (o := _) rfl (fun K hK => ?_) AllReadyH.nil)
    go_simp
    go_at_call 28
    refine (sameq_n h h' f3 HB.out).mono ?_
    rintro e w4 ⟨rfl, hb⟩
    replace h := h.below hb
    replace h' := h'.below hb
    replace f3 := f3.below hb
    replace b0 := b0.below hb
    replace H0 := H0.trans (hb.mono H0.size)
    clear hb
    clear f3
    go_wp2_with fail
    refine hK.out _ _ ⟨b0.cell 0 _ rfl, b0.cell 1 _ rfl, b0.cell 2 _ rfl⟩ (fun hHeld => ?_)
    clear hK K
    (try simp only [List.getElem_toArray, List.getElem_cons_succ, List.getElem_cons_zero, Act.put, List.setIfInBounds_toArray, List.set_cons_zero, List.set_cons_succ])
    refine wpAnyH_take (i := 5) (v := ?_) rfl (by kernel_rfl) (by kernel_rfl) (by kernel_rfl) (fun _ _ _ h => h) (Or.inl ⟨by rfl, ?_⟩) (by assumption) ?_
    rotate_left
    · (intro w hSw; (try dsimp only at hSw); go_simp; (try with_reducible rfl))
    (try simp only [List.getElem_toArray, List.getElem_cons_succ, List.getElem_cons_zero, Act.put, List.setIfInBounds_toArray, List.set_cons_zero, List.set_cons_succ])
    refine wpAnyH_take (i := 6) (v := ?_) rfl (by kernel_rfl) (by kernel_rfl) (by kernel_rfl) (fun _ _ _ h => h) (Or.inl ⟨by rfl, ?_⟩) (by assumption) ?_
    rotate_left
    · (intro w hSw; (try dsimp only at hSw); go_simp; (try with_reducible rfl))
    (try simp only [List.getElem_toArray, List.getElem_cons_succ, List.getElem_cons_zero, Act.put, List.setIfInBounds_toArray, List.set_cons_zero, List.set_cons_succ])
    refine wpAnyH_take (i := 7) (v := ?_) rfl (by kernel_rfl) (by kernel_rfl) (by kernel_rfl) (fun _ _ _ h => h) (Or.inl ⟨by rfl, ?_⟩) (by assumption) ?_
    rotate_left
    · (intro w hSw; (try dsimp only at hSw); go_simp; (try with_reducible rfl))
    (try simp only [List.getElem_toArray, List.getElem_cons_succ, List.getElem_cons_zero, Act.put, List.setIfInBounds_toArray, List.set_cons_zero, List.set_cons_succ])
    refine wpAnyH_take (i := 8) (v := ?_) rfl (by kernel_rfl) (by kernel_rfl) (by kernel_rfl) (fun _ _ _ h => h) (Or.inl ⟨by rfl, ?_⟩) (by assumption) ?_
    rotate_left
    · (intro w hSw; (try dsimp only at hSw); go_simp; (try with_reducible rfl))
    (try simp only [List.getElem_toArray, List.getElem_cons_succ, List.getElem_cons_zero, Act.put, List.setIfInBounds_toArray, List.set_cons_zero, List.set_cons_succ])
    refine wpAnyH_take (i := 9) (v := ?_) rfl (by kernel_rfl) (by kernel_rfl) (by kernel_rfl) (fun _ _ _ h => h) (Or.inl ⟨by rfl, ?_⟩) (by assumption) ?_
    rotate_left
    · (intro w hSw; (try dsimp only at hSw); go_simp; (try with_reducible rfl))
    (try simp only [List.getElem_toArray, List.getElem_cons_succ, List.getElem_cons_zero, Act.put, List.setIfInBounds_toArray, List.set_cons_zero, List.set_cons_succ])
    refine wpAnyH_take (i := 10) (v := ?_) rfl (by kernel_rfl) (by kernel_rfl) (by kernel_rfl) (fun _ _ _ h => h) (Or.inl ⟨by rfl, ?_⟩) (by assumption) ?_
    rotate_left
    · (intro w hSw; (try dsimp only at hSw); go_simp; (try with_reducible rfl))
    (try simp only [List.getElem_toArray, List.getElem_cons_succ, List.getElem_cons_zero, Act.put, List.setIfInBounds_toArray, List.set_cons_zero, List.set_cons_succ])
    refine wpAnyH_take (i := 11) (v := ?_) rfl (by kernel_rfl) (by kernel_rfl) (by kernel_rfl) (fun _ _ _ h => h) (Or.inl ⟨by rfl, ?_⟩) (by assumption) ?_
    rotate_left
    · (intro w hSw; (try dsimp only at hSw); go_simp; (try with_reducible rfl))
    (try simp only [List.getElem_toArray, List.getElem_cons_succ, List.getElem_cons_zero, Act.put, List.setIfInBounds_toArray, List.set_cons_zero, List.set_cons_succ])
    refine wpAnyH_done (by kernel_rfl) ?_ _
    refine NoPanic.normal ?_
    go_wp2_with fail
    go_returns
    exact ⟨by rw [← HE.out, HB.out, HM.out]; simp, H0⟩
end
end Go.Proofs.YtlpgbflajcfgpaaGreatDoor
