/-
  rational.Parse where it finds a syntax error.
-/
import Derived.Test.YtancgkmkbgkncaaGreatDoorRatP
namespace Go.Proofs.YtancgkmkbgkncaaGreatDoor
open Go.RowKit

section
variable {bs : List Nat} {a : Addr} {A0 A1 A2 A3 D0 D1 D2 D3 : Option Addr} {n0 n1 n2 n3 c0 c1 c2 c3 m0 m1 m2 m3 e0 e1 e2 e3 : Nat} {s0 s1 s2 s3 : Bool} {z z' z0 z1 z2 : Int} {q q' q0 q1 q2 : Rat} {L L0 L1 L2 x x0 x1 y : Nat} {k : Int} {w : World}
theorem is_same_b (a : Addr) (w : World) :
    Calls Tryz.prog 12 #[.iface 195 (.pointer (some a)), .iface 195 (.pointer (some a))] w fun e w' => e = .returned (.bool true) ∧ Below w.heap.size w w' := by
  refine (is_same a w).mono ?_
  rintro e w' ⟨rfl, rfl⟩
  exact ⟨rfl, Below.refl _ _⟩
theorem iparse_any (hb : OkB bs) (hl : bs.length ≤ L) (hL : L ≤ 4096) (hS : w.cell? ⟨0, 0, none⟩ = some (.iface 195 (.pointer (some a)))) :
    Calls Tryz.prog 48 #[.string (strB bs)] w fun e w' => ∃ t B k d u, e = .returned (.tuple #[.agg #[.bool t, .slice B k d], u]) ∧ Below w.heap.size w w' := by
  by_cases h : (∀ b ∈ (splitM bs).2, Dig b) ∧ (splitM bs).2 ≠ []
  · refine (iparse_yes hb h.1 h.2 hl hL).mono ?_
    rintro e w' ⟨t, B, k, d, rfl, _, h2⟩
    exact ⟨t, B, k, d, _, rfl, h2⟩
  · refine (iparse_no hb (by omega) h hS).mono ?_
    rintro e w' ⟨rfl, h2⟩
    exact ⟨_, _, _, _, _, rfl, h2⟩
theorem iparse_bad (hb : OkB bs) (hl : bs.length ≤ 4096) (hn : ¬ ((∀ b ∈ (splitM bs).2, Dig b) ∧ (splitM bs).2 ≠ [])) (hS : w.cell? ⟨0, 0, none⟩ = some (.iface 195 (.pointer (some a)))) :
    Calls Tryz.prog 48 #[.string (strB bs)] w fun e w' => ∃ t B k d, e = .returned (.tuple #[.agg #[.bool t, .slice B k d], .iface 195 (.pointer (some a))]) ∧ Below w.heap.size w w' := by
  refine (iparse_no hb hl hn hS).mono ?_
  rintro e w' ⟨rfl, h2⟩
  exact ⟨_, _, _, _, rfl, h2⟩
set_option maxRecDepth 100000 in
set_option maxHeartbeats 800000 in
theorem rparse_den (hb : OkB bs) (hl : bs.length ≤ L) (hL : L ≤ 4000) (hd : ¬ ((∀ b ∈ denS bs, Dig b) ∧ denS bs ≠ [])) (hS : w.cell? ⟨0, 0, none⟩ = some (.iface 195 (.pointer (some a))))  :
    Calls Tryz.prog 25 #[.string (strB bs)] w fun e w' => ∃ st : ByteArray, e = .returned (.tuple #[.agg #[.bool false, .slice none 0 0, .slice none 0 0], .iface 103 (.agg #[.string st, .iface 195 (.pointer (some a))])]) ∧ Below w.heap.size w w' := by
  have blkS := World.block_lt_of_cell? _ _ hS
  have hlc := cutS_len bs
  have hok := cutS_ok hb
  have HC := Lib.hid (fun W => cut_b hb (by omega) W)
  have hdl : (denS bs).length ≤ L + 1 := denS_len bs (by omega) (by omega)
  have HI := Lib.hid (fun W (h : Below w.heap.size w W) => iparse_any (w := W) (L := L) hok.1 (by omega) (by omega) ((h.cell (p := ⟨0, 0, none⟩) blkS).trans hS))
  have HD := Lib.hid (fun W (h : Below w.heap.size w W) => parse_no (w := W) (a := a) (denS_ok hb) (by omega) hd ((h.cell (p := ⟨0, 0, none⟩) blkS).trans hS))
  have HS := Lib.hid hS
  clear hb hl hS hd hlc hok hdl
  unfold denS at *
  generalize hsb : strB bs = sb at *
  cases hf : (cutS bs).2.2
  · rw [hf] at HC HD
    simp only [Bool.false_eq_true, if_false] at HD ⊢
    rw [show strB [49] = ⟨#[49]⟩ from rfl] at HD
    generalize (cutS bs).1 = ts at *
    generalize (cutS bs).2.1 = tr at *
    go_enter Tryz.func25, Tryz.ntmps25
    go_wp2_with fail
    obtain ⟨W0, hW, b0, hbW, hszW0⟩ := boxes1 w #[.bool false, .slice none 0 0, .slice none 0 0] 29
    rw [hW]
    clear hW
    have H0 := hbW
    clear hbW
    refine (HC.out _).mono ?_
    rintro e w1 ⟨rfl, hb⟩
    replace b0 := b0.below hb
    replace H0 := H0.trans (hb.mono H0.size)
    clear hb
    go_wp2_with fail
    refine (HI.out _ H0).mono ?_
    rintro e w2 ⟨s1, A1, n1, c1, u1, rfl, hb⟩
    replace b0 := b0.below hb
    replace H0 := H0.trans (hb.mono H0.size)
    clear hb
    have lb0_3 := b0.lt
    obtain ⟨W3, hW, b1, hbW, hszW3⟩ := boxes1 w2 #[.bool s1, .slice A1 n1 c1] 27
    skip
    skip
    replace b0 := b0.below hbW
    replace H0 := H0.trans (hbW.mono H0.size)
    clear hbW
    go_wp2_with fail
    clear hW
    refine (HD.out _ H0).mono ?_
    rintro e w4 ⟨rfl, hb⟩
    replace b0 := b0.below hb
    replace b1 := b1.below hb
    replace H0 := H0.trans (hb.mono H0.size)
    clear hb
    have cS := (H0.cell (p := ⟨0, 0, none⟩) blkS).trans HS.out
    go_wp2_with fail
    clear cS
    refine (is_same_b _ _).mono ?_
    rintro e w5 ⟨rfl, hb⟩
    replace b0 := b0.below hb
    replace b1 := b1.below hb
    replace H0 := H0.trans (hb.mono H0.size)
    clear hb
    have cb00 := b0.cell 0 _ rfl
    have yb00 := b0.frozen 0
    have cb01 := b0.cell 1 _ rfl
    have yb01 := b0.frozen 1
    have cb02 := b0.cell 2 _ rfl
    have yb02 := b0.frozen 2
    go_wp2_with fail
    clear cb00 yb00 cb01 yb01 cb02 yb02
    have hg := only_store3 (w5) (w.heap.size) (.bool false) (.slice none 0 0) (.slice none 0 0)
    have hB := b0.stored3 (.bool false) (.slice none 0 0) (.slice none 0 0)
    have H9 := below_only H0 hg (by omega) H0.size
    refine bodyPost_ret (ret_rat_b rfl rfl hB) rfl ?_
    exact ⟨_, rfl, H9⟩
  · rw [hf] at HC HD
    simp only [if_true] at HD ⊢
    generalize (cutS bs).1 = ts at *
    generalize (cutS bs).2.1 = tr at *
    go_enter Tryz.func25, Tryz.ntmps25
    go_wp2_with fail
    obtain ⟨W0, hW, b0, hbW, hszW0⟩ := boxes1 w #[.bool false, .slice none 0 0, .slice none 0 0] 29
    rw [hW]
    clear hW
    have H0 := hbW
    clear hbW
    refine (HC.out _).mono ?_
    rintro e w1 ⟨rfl, hb⟩
    replace b0 := b0.below hb
    replace H0 := H0.trans (hb.mono H0.size)
    clear hb
    go_wp2_with fail
    refine (HI.out _ H0).mono ?_
    rintro e w2 ⟨s1, A1, n1, c1, u1, rfl, hb⟩
    replace b0 := b0.below hb
    replace H0 := H0.trans (hb.mono H0.size)
    clear hb
    have lb0_3 := b0.lt
    obtain ⟨W3, hW, b1, hbW, hszW3⟩ := boxes1 w2 #[.bool s1, .slice A1 n1 c1] 27
    skip
    skip
    replace b0 := b0.below hbW
    replace H0 := H0.trans (hbW.mono H0.size)
    clear hbW
    go_wp2_with fail
    clear hW
    refine (HD.out _ H0).mono ?_
    rintro e w4 ⟨rfl, hb⟩
    replace b0 := b0.below hb
    replace b1 := b1.below hb
    replace H0 := H0.trans (hb.mono H0.size)
    clear hb
    have cS := (H0.cell (p := ⟨0, 0, none⟩) blkS).trans HS.out
    go_wp2_with fail
    clear cS
    refine (is_same_b _ _).mono ?_
    rintro e w5 ⟨rfl, hb⟩
    replace b0 := b0.below hb
    replace b1 := b1.below hb
    replace H0 := H0.trans (hb.mono H0.size)
    clear hb
    have cb00 := b0.cell 0 _ rfl
    have yb00 := b0.frozen 0
    have cb01 := b0.cell 1 _ rfl
    have yb01 := b0.frozen 1
    have cb02 := b0.cell 2 _ rfl
    have yb02 := b0.frozen 2
    go_wp2_with fail
    clear cb00 yb00 cb01 yb01 cb02 yb02
    have hg := only_store3 (w5) (w.heap.size) (.bool false) (.slice none 0 0) (.slice none 0 0)
    have hB := b0.stored3 (.bool false) (.slice none 0 0) (.slice none 0 0)
    have H9 := below_only H0 hg (by omega) H0.size
    refine bodyPost_ret (ret_rat_b rfl rfl hB) rfl ?_
    exact ⟨_, rfl, H9⟩
set_option maxRecDepth 100000 in
set_option maxHeartbeats 800000 in
theorem rparse_num (hb : OkB bs) (hl : bs.length ≤ L) (hL : L ≤ 4000) (hi : ¬ ((∀ b ∈ (splitM (cutS bs).1).2, Dig b) ∧ (splitM (cutS bs).1).2 ≠ [])) (hd : ((∀ b ∈ denS bs, Dig b) ∧ denS bs ≠ [])) (hS : w.cell? ⟨0, 0, none⟩ = some (.iface 195 (.pointer (some a))))  :
    Calls Tryz.prog 25 #[.string (strB bs)] w fun e w' => ∃ st : ByteArray, e = .returned (.tuple #[.agg #[.bool false, .slice none 0 0, .slice none 0 0], .iface 103 (.agg #[.string st, .iface 195 (.pointer (some a))])]) ∧ Below w.heap.size w w' := by
  have blkS := World.block_lt_of_cell? _ _ hS
  have hlc := cutS_len bs
  have hok := cutS_ok hb
  have HC := Lib.hid (fun W => cut_b hb (by omega) W)
  have hdl : (denS bs).length ≤ L + 1 := denS_len bs (by omega) (by omega)
  have HI := Lib.hid (fun W (h : Below w.heap.size w W) => iparse_bad (w := W) (a := a) hok.1 (by omega) hi ((h.cell (p := ⟨0, 0, none⟩) blkS).trans hS))
  have HD := Lib.hid (fun W => parse_v (w := W) (L := L + 1) (denS_ok hb) hd.1 hd.2 hdl (by omega))
  have HS := Lib.hid hS
  clear hb hl hS hi hd hlc hok hdl
  unfold denS at *
  generalize hsb : strB bs = sb at *
  cases hf : (cutS bs).2.2
  · rw [hf] at HC HD
    simp only [Bool.false_eq_true, if_false] at HD ⊢
    rw [show strB [49] = ⟨#[49]⟩ from rfl] at HD
    generalize (cutS bs).1 = ts at *
    generalize (cutS bs).2.1 = tr at *
    go_enter Tryz.func25, Tryz.ntmps25
    go_wp2_with fail
    obtain ⟨W0, hW, b0, hbW, hszW0⟩ := boxes1 w #[.bool false, .slice none 0 0, .slice none 0 0] 29
    rw [hW]
    clear hW
    have H0 := hbW
    clear hbW
    refine (HC.out _).mono ?_
    rintro e w1 ⟨rfl, hb⟩
    replace b0 := b0.below hb
    replace H0 := H0.trans (hb.mono H0.size)
    clear hb
    go_wp2_with fail
    refine (HI.out _ H0).mono ?_
    rintro e w2 ⟨s1, A1, n1, c1, rfl, hb⟩
    replace b0 := b0.below hb
    replace H0 := H0.trans (hb.mono H0.size)
    clear hb
    have lb0_3 := b0.lt
    obtain ⟨W3, hW, b1, hbW, hszW3⟩ := boxes1 w2 #[.bool s1, .slice A1 n1 c1] 27
    skip
    skip
    replace b0 := b0.below hbW
    replace H0 := H0.trans (hbW.mono H0.size)
    clear hbW
    go_wp2_with fail
    clear hW
    refine (HD.out _).mono ?_
    rintro e w4 ⟨A2, n2, c2, rfl, fd, hb⟩
    replace b0 := b0.below hb
    replace b1 := b1.below hb
    replace H0 := H0.trans (hb.mono H0.size)
    clear hb
    have cS := (H0.cell (p := ⟨0, 0, none⟩) blkS).trans HS.out
    go_wp2_with fail
    clear cS
    refine (is_nil_b _ _ _).mono ?_
    rintro e w5 ⟨rfl, hb⟩
    replace fd := fd.below hb
    replace b0 := b0.below hb
    replace b1 := b1.below hb
    replace H0 := H0.trans (hb.mono H0.size)
    clear hb
    clear fd
    have cb00 := b0.cell 0 _ rfl
    have yb00 := b0.frozen 0
    have cb01 := b0.cell 1 _ rfl
    have yb01 := b0.frozen 1
    have cb02 := b0.cell 2 _ rfl
    have yb02 := b0.frozen 2
    go_wp2_with fail
    clear cb00 yb00 cb01 yb01 cb02 yb02
    have hg := only_store3 (w5) (w.heap.size) (.bool false) (.slice none 0 0) (.slice none 0 0)
    have hB := b0.stored3 (.bool false) (.slice none 0 0) (.slice none 0 0)
    have H9 := below_only H0 hg (by omega) H0.size
    refine bodyPost_ret (ret_rat_b rfl rfl hB) rfl ?_
    exact ⟨_, rfl, H9⟩
  · rw [hf] at HC HD
    simp only [if_true] at HD ⊢
    generalize (cutS bs).1 = ts at *
    generalize (cutS bs).2.1 = tr at *
    go_enter Tryz.func25, Tryz.ntmps25
    go_wp2_with fail
    obtain ⟨W0, hW, b0, hbW, hszW0⟩ := boxes1 w #[.bool false, .slice none 0 0, .slice none 0 0] 29
    rw [hW]
    clear hW
    have H0 := hbW
    clear hbW
    refine (HC.out _).mono ?_
    rintro e w1 ⟨rfl, hb⟩
    replace b0 := b0.below hb
    replace H0 := H0.trans (hb.mono H0.size)
    clear hb
    go_wp2_with fail
    refine (HI.out _ H0).mono ?_
    rintro e w2 ⟨s1, A1, n1, c1, rfl, hb⟩
    replace b0 := b0.below hb
    replace H0 := H0.trans (hb.mono H0.size)
    clear hb
    have lb0_3 := b0.lt
    obtain ⟨W3, hW, b1, hbW, hszW3⟩ := boxes1 w2 #[.bool s1, .slice A1 n1 c1] 27
    skip
    skip
    replace b0 := b0.below hbW
    replace H0 := H0.trans (hbW.mono H0.size)
    clear hbW
    go_wp2_with fail
    clear hW
    refine (HD.out _).mono ?_
    rintro e w4 ⟨A2, n2, c2, rfl, fd, hb⟩
    replace b0 := b0.below hb
    replace b1 := b1.below hb
    replace H0 := H0.trans (hb.mono H0.size)
    clear hb
    have cS := (H0.cell (p := ⟨0, 0, none⟩) blkS).trans HS.out
    go_wp2_with fail
    clear cS
    refine (is_nil_b _ _ _).mono ?_
    rintro e w5 ⟨rfl, hb⟩
    replace fd := fd.below hb
    replace b0 := b0.below hb
    replace b1 := b1.below hb
    replace H0 := H0.trans (hb.mono H0.size)
    clear hb
    clear fd
    have cb00 := b0.cell 0 _ rfl
    have yb00 := b0.frozen 0
    have cb01 := b0.cell 1 _ rfl
    have yb01 := b0.frozen 1
    have cb02 := b0.cell 2 _ rfl
    have yb02 := b0.frozen 2
    go_wp2_with fail
    clear cb00 yb00 cb01 yb01 cb02 yb02
    have hg := only_store3 (w5) (w.heap.size) (.bool false) (.slice none 0 0) (.slice none 0 0)
    have hB := b0.stored3 (.bool false) (.slice none 0 0) (.slice none 0 0)
    have H9 := below_only H0 hg (by omega) H0.size
    refine bodyPost_ret (ret_rat_b rfl rfl hB) rfl ?_
    exact ⟨_, rfl, H9⟩
theorem rparse_no (hb : OkB bs) (hl : bs.length ≤ L) (hL : L ≤ 4000) (hn : ¬ (((∀ b ∈ (splitM (cutS bs).1).2, Dig b) ∧ (splitM (cutS bs).1).2 ≠ []) ∧ ((∀ b ∈ denS bs, Dig b) ∧ denS bs ≠ []))) (hS : w.cell? ⟨0, 0, none⟩ = some (.iface 195 (.pointer (some a)))) :
    Calls Tryz.prog 25 #[.string (strB bs)] w fun e w' => (∃ st : ByteArray, e = .returned (.tuple #[.agg #[.bool false, .slice none 0 0, .slice none 0 0], .iface 103 (.agg #[.string st, .iface 195 (.pointer (some a))])])) ∧ Below w.heap.size w w' := by
  by_cases h : ((∀ b ∈ denS bs, Dig b) ∧ denS bs ≠ [])
  · refine (rparse_num hb hl hL (fun h2 => hn ⟨h2, h⟩) h hS).mono ?_
    rintro e w' ⟨st, rfl, h3⟩
    exact ⟨⟨st, rfl⟩, h3⟩
  · refine (rparse_den hb hl hL h hS).mono ?_
    rintro e w' ⟨st, rfl, h3⟩
    exact ⟨⟨st, rfl⟩, h3⟩
end
end Go.Proofs.YtancgkmkbgkncaaGreatDoor
