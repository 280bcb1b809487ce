/-
  Parse and Format of rational numbers.
-/
import Derived.Test.YtancgkmkbgkncaaGreatDoorRatD
import Derived.Test.YtancgkmkbgkncaaGreatDoorCut
import Derived.Test.YtancgkmkbgkncaaGreatDoorT1
import Derived.Test.YtancgkmkbgkncaaGreatDoorLawITexts
namespace Go.Proofs.YtancgkmkbgkncaaGreatDoor
open Go.RowKit

section
variable {A0 A1 A2 A3 D0 D1 D2 D3 : Option Addr} {n0 n1 n2 n3 c0 c1 c2 c3 m0 m1 m2 m3 e0 e1 e2 e3 : Nat} {s0 s1 s2 s3 : Bool} {z z' z0 z1 z2 : Int} {q q' q0 q1 q2 : Rat} {L L0 L1 L2 x x0 x1 y : Nat} {k : Int} {w : World} {bs : List Nat} {a a' : Addr}
/-- What stands for the denominator in a text. -/
def denS (bs : List Nat) : List Nat := if (cutS bs).2.2 = true then (cutS bs).2.1 else [49]
theorem cut_b {bs : List Nat} (hb : OkB bs) (hl : bs.length ≤ 1000000) (w : World) :
    Calls Tryz.prog 47 #[.string (strB bs), .string ⟨#[47]⟩] w fun e w' => e = .returned (.tuple #[.string (strB (cutS bs).1), .string (strB (cutS bs).2.1), .bool (cutS bs).2.2]) ∧ Below w.heap.size w w' := by
  refine (cut_v hb hl w).mono ?_
  rintro e w' ⟨rfl, n, rfl⟩
  exact ⟨rfl, below_drewN (Below.refl _ w) n⟩
theorem is_nil_b (v : Value) (t : TypeId) (w : World) :
    Calls Tryz.prog 12 #[.nilIface, .iface t v] w fun e w' => e = .returned (.bool false) ∧ Below w.heap.size w w' := by
  refine (is_nil v t w).mono ?_
  rintro e w' ⟨rfl, rfl⟩
  exact ⟨rfl, Below.refl _ _⟩
theorem cutS_len (bs : List Nat) : (cutS bs).1.length ≤ bs.length ∧ (cutS bs).2.1.length ≤ bs.length := by
  induction bs with
  | nil => exact ⟨Nat.le_refl _, Nat.le_refl _⟩
  | cons b t ih =>
    rw [cutS_cons]
    split
    · simp
    · simp only [List.length_cons]; omega
theorem cutS_ok {bs : List Nat} (hb : OkB bs) : OkB (cutS bs).1 ∧ OkB (cutS bs).2.1 := by
  induction bs with
  | nil => exact ⟨okB_nil, okB_nil⟩
  | cons b t ih =>
    have h1 := okB_cons.1 hb
    rw [cutS_cons]
    split
    · exact ⟨okB_nil, h1.2⟩
    · exact ⟨okB_cons.2 ⟨h1.1, (ih h1.2).1⟩, (ih h1.2).2⟩
theorem denS_ok {bs : List Nat} (hb : OkB bs) : OkB (denS bs) := by
  unfold denS; split
  · exact (cutS_ok hb).2
  · intro b h; rw [List.mem_singleton] at h; omega
theorem denS_len (bs : List Nat) {L : Nat} (h : bs.length ≤ L) (h1 : 1 ≤ L) : (denS bs).length ≤ L := by
  unfold denS; split
  · exact Nat.le_trans (cutS_len bs).2 h
  · exact h1
set_option maxRecDepth 100000 in
set_option maxHeartbeats 800000 in
theorem rparse_yes (hb : OkB bs) (hl : bs.length ≤ L) (hL : L ≤ 4000) (hi : (∀ b ∈ (splitM (cutS bs).1).2, Dig b) ∧ (splitM (cutS bs).1).2 ≠ []) (hd : (∀ b ∈ denS bs, Dig b) ∧ denS bs ≠ []) (hS : w.cell? ⟨0, 0, none⟩ = some (.iface 195 (.pointer (some a)))) (hz : decN (denS bs) ≠ 0) :
    Calls Tryz.prog 25 #[.string (strB bs)] w fun e w' => ∃ s3 A3 n3 c3 D3 m3 e3, e = .returned (.tuple #[.agg #[.bool s3, .slice A3 n3 c3, .slice D3 m3 e3], .nilIface]) ∧ NQ w' s3 (.slice A3 n3 c3) (.slice D3 m3 e3) (mkRat (sg (splitM (cutS bs).1).1 (decN (splitM (cutS bs).1).2)) (decN (denS bs))) (L + 2) ∧ Below w.heap.size w w' := by
  have blkS := World.block_lt_of_cell? _ _ hS
  have HS := Lib.hid hS
  have hlc := cutS_len bs
  have hok := cutS_ok hb
  have HC := Lib.hid (fun W => cut_b hb (by omega) W)
  have HI := Lib.hid (fun W => iparse_yes (w := W) (L := L) hok.1 hi.1 hi.2 (by omega) (by omega))
  have hdl : (denS bs).length ≤ L + 1 := denS_len bs (by omega) (by omega)
  have HD := Lib.hid (fun W => parse_v (w := W) (L := L + 1) (denS_ok hb) hd.1 hd.2 hdl (by omega))
  have HZ := Lib.hid (show decide (decN (denS bs) = 0) = false by exact decide_eq_false hz)
  have HN := Lib.hid hz
  clear hb hl hS hi hd hz hlc hok hdl
  unfold denS at *
  generalize hsb : strB bs = sb at *
  cases hf : (cutS bs).2.2
  · rw [hf] at HC HD HZ HN
    simp only [Bool.false_eq_true, if_false] at HD HZ HN ⊢
    rw [show strB [49] = ⟨#[49]⟩ from rfl] at HD
    generalize decN [49] = dn at *
    generalize (splitM (cutS bs).1).1 = sgn at *
    generalize (splitM (cutS bs).1).2 = dgs at *
    generalize (cutS bs).1 = ts at *
    generalize (cutS bs).2.1 = tr at *
    go_enter Tryz.func25, Tryz.ntmps25
    go_wp2_with fail
    obtain ⟨W0, hW, b0, hbW, hszW0⟩ := boxes1 w #[.bool false, .slice none 0 0, .slice none 0 0] 29
    rw [hW]
    clear hW
    have H0 := hbW
    clear hbW
    refine (HC.out _).mono ?_
    rintro e w1 ⟨rfl, hb⟩
    replace b0 := b0.below hb
    replace H0 := H0.trans (hb.mono H0.size)
    clear hb
    go_wp2_with fail
    refine (HI.out _).mono ?_
    rintro e w2 ⟨s1, A1, n1, c1, rfl, fi, hb⟩
    replace b0 := b0.below hb
    replace H0 := H0.trans (hb.mono H0.size)
    clear hb
    have lb0_3 := b0.lt
    obtain ⟨W3, hW, b1, hbW, hszW3⟩ := boxes1 w2 #[.bool s1, .slice A1 n1 c1] 27
    skip
    skip
    replace fi := fi.below hbW
    replace b0 := b0.below hbW
    replace H0 := H0.trans (hbW.mono H0.size)
    clear hbW
    go_wp2_with fail
    clear hW
    refine (HD.out _).mono ?_
    rintro e w4 ⟨A2, n2, c2, rfl, fd, hb⟩
    replace fi := fi.below hb
    replace b0 := b0.below hb
    replace b1 := b1.below hb
    replace H0 := H0.trans (hb.mono H0.size)
    clear hb
    have cS := (H0.cell (p := ⟨0, 0, none⟩) blkS).trans HS.out
    go_wp2_with fail
    clear cS
    refine (is_nil_b _ _ _).mono ?_
    rintro e w5 ⟨rfl, hb⟩
    replace fi := fi.below hb
    replace fd := fd.below hb
    replace b0 := b0.below hb
    replace b1 := b1.below hb
    replace H0 := H0.trans (hb.mono H0.size)
    clear hb
    go_wp2_with fail
    refine (riszero_v fd.rv HZ.out).mono ?_
    rintro e w6 ⟨rfl, hb⟩
    replace fi := fi.below hb
    replace fd := fd.below hb
    replace b0 := b0.below hb
    replace b1 := b1.below hb
    replace H0 := H0.trans (hb.mono H0.size)
    clear hb
    have cb10 := b1.cell 0 _ rfl
    have cb11 := b1.cell 1 _ rfl
    go_wp2_with fail
    clear cb10 cb11
    refine (rlowest_v (fi.ri.more (by omega)) (fd.rv.more (by omega)) HN.out (L := L + 2) (by omega)).mono ?_
    rintro e w7 ⟨s3, A3, n3, c3, D3, m3, e3, rfl, fq, hb⟩
    replace fi := fi.below hb
    replace fd := fd.below hb
    replace b0 := b0.below hb
    replace b1 := b1.below hb
    replace H0 := H0.trans (hb.mono H0.size)
    clear hb
    have cb00 := b0.cell 0 _ rfl
    have yb00 := b0.frozen 0
    have cb01 := b0.cell 1 _ rfl
    have yb01 := b0.frozen 1
    have cb02 := b0.cell 2 _ rfl
    have yb02 := b0.frozen 2
    go_wp2_with fail
    clear cb00 yb00 cb01 yb01 cb02 yb02
    have hg := only_store3 w7 (w.heap.size) (.bool s3) (.slice A3 n3 c3) (.slice D3 m3 e3)
    have hB := b0.stored3 (.bool s3) (.slice A3 n3 c3) (.slice D3 m3 e3)
    generalize hX : (((w7.setCell ⟨w.heap.size, 0, none⟩ (.bool s3)).setCell ⟨w.heap.size, 1, none⟩ (.slice A3 n3 c3)).setCell ⟨w.heap.size, 2, none⟩ (.slice D3 m3 e3)) = X8 at hg hB ⊢
    clear hX
    replace fi := fi.kept b0 (by simp [notInt]) hg
    replace fd := fd.kept b0 (by simp [notInt]) hg
    replace fq := fq.kept b0 (by simp [notInt]) hg
    replace b1 := b1.other hg (by omega)
    replace b0 := hB
    replace H0 := below_only H0 hg (by omega) H0.size
    clear hg hB
    refine bodyPost_ret (ret_rat_b rfl rfl b0) rfl ?_
    exact ⟨s3, A3, n3, c3, D3, m3, e3, rfl, fq, H0⟩
  · rw [hf] at HC HD HZ HN
    simp only [if_true] at HD HZ HN ⊢
    generalize (splitM (cutS bs).1).1 = sgn at *
    generalize (splitM (cutS bs).1).2 = dgs at *
    generalize (cutS bs).1 = ts at *
    generalize (cutS bs).2.1 = tr at *
    go_enter Tryz.func25, Tryz.ntmps25
    go_wp2_with fail
    obtain ⟨W0, hW, b0, hbW, hszW0⟩ := boxes1 w #[.bool false, .slice none 0 0, .slice none 0 0] 29
    rw [hW]
    clear hW
    have H0 := hbW
    clear hbW
    refine (HC.out _).mono ?_
    rintro e w1 ⟨rfl, hb⟩
    replace b0 := b0.below hb
    replace H0 := H0.trans (hb.mono H0.size)
    clear hb
    go_wp2_with fail
    refine (HI.out _).mono ?_
    rintro e w2 ⟨s1, A1, n1, c1, rfl, fi, hb⟩
    replace b0 := b0.below hb
    replace H0 := H0.trans (hb.mono H0.size)
    clear hb
    have lb0_3 := b0.lt
    obtain ⟨W3, hW, b1, hbW, hszW3⟩ := boxes1 w2 #[.bool s1, .slice A1 n1 c1] 27
    skip
    skip
    replace fi := fi.below hbW
    replace b0 := b0.below hbW
    replace H0 := H0.trans (hbW.mono H0.size)
    clear hbW
    go_wp2_with fail
    clear hW
    refine (HD.out _).mono ?_
    rintro e w4 ⟨A2, n2, c2, rfl, fd, hb⟩
    replace fi := fi.below hb
    replace b0 := b0.below hb
    replace b1 := b1.below hb
    replace H0 := H0.trans (hb.mono H0.size)
    clear hb
    have cS := (H0.cell (p := ⟨0, 0, none⟩) blkS).trans HS.out
    go_wp2_with fail
    clear cS
    refine (is_nil_b _ _ _).mono ?_
    rintro e w5 ⟨rfl, hb⟩
    replace fi := fi.below hb
    replace fd := fd.below hb
    replace b0 := b0.below hb
    replace b1 := b1.below hb
    replace H0 := H0.trans (hb.mono H0.size)
    clear hb
    go_wp2_with fail
    refine (riszero_v fd.rv HZ.out).mono ?_
    rintro e w6 ⟨rfl, hb⟩
    replace fi := fi.below hb
    replace fd := fd.below hb
    replace b0 := b0.below hb
    replace b1 := b1.below hb
    replace H0 := H0.trans (hb.mono H0.size)
    clear hb
    have cb10 := b1.cell 0 _ rfl
    have cb11 := b1.cell 1 _ rfl
    go_wp2_with fail
    clear cb10 cb11
    refine (rlowest_v (fi.ri.more (by omega)) (fd.rv.more (by omega)) HN.out (L := L + 2) (by omega)).mono ?_
    rintro e w7 ⟨s3, A3, n3, c3, D3, m3, e3, rfl, fq, hb⟩
    replace fi := fi.below hb
    replace fd := fd.below hb
    replace b0 := b0.below hb
    replace b1 := b1.below hb
    replace H0 := H0.trans (hb.mono H0.size)
    clear hb
    have cb00 := b0.cell 0 _ rfl
    have yb00 := b0.frozen 0
    have cb01 := b0.cell 1 _ rfl
    have yb01 := b0.frozen 1
    have cb02 := b0.cell 2 _ rfl
    have yb02 := b0.frozen 2
    go_wp2_with fail
    clear cb00 yb00 cb01 yb01 cb02 yb02
    have hg := only_store3 w7 (w.heap.size) (.bool s3) (.slice A3 n3 c3) (.slice D3 m3 e3)
    have hB := b0.stored3 (.bool s3) (.slice A3 n3 c3) (.slice D3 m3 e3)
    generalize hX : (((w7.setCell ⟨w.heap.size, 0, none⟩ (.bool s3)).setCell ⟨w.heap.size, 1, none⟩ (.slice A3 n3 c3)).setCell ⟨w.heap.size, 2, none⟩ (.slice D3 m3 e3)) = X8 at hg hB ⊢
    clear hX
    replace fi := fi.kept b0 (by simp [notInt]) hg
    replace fd := fd.kept b0 (by simp [notInt]) hg
    replace fq := fq.kept b0 (by simp [notInt]) hg
    replace b1 := b1.other hg (by omega)
    replace b0 := hB
    replace H0 := below_only H0 hg (by omega) H0.size
    clear hg hB
    refine bodyPost_ret (ret_rat_b rfl rfl b0) rfl ?_
    exact ⟨s3, A3, n3, c3, D3, m3, e3, rfl, fq, H0⟩
set_option maxRecDepth 100000 in
set_option maxHeartbeats 800000 in
theorem rparse_zero (hb : OkB bs) (hl : bs.length ≤ L) (hL : L ≤ 4000) (hi : (∀ b ∈ (splitM (cutS bs).1).2, Dig b) ∧ (splitM (cutS bs).1).2 ≠ []) (hd : (∀ b ∈ denS bs, Dig b) ∧ denS bs ≠ []) (hS : w.cell? ⟨0, 0, none⟩ = some (.iface 195 (.pointer (some a)))) (hR : w.cell? ⟨1, 0, none⟩ = some (.iface 195 (.pointer (some a')))) (hz : decN (denS bs) = 0) :
    Calls Tryz.prog 25 #[.string (strB bs)] w fun e w' => e = .returned (.tuple #[.agg #[.bool false, .slice none 0 0, .slice none 0 0], .iface 103 (.agg #[.string ⟨#[100, 101, 110, 111, 109, 105, 110, 97, 116, 111, 114]⟩, .iface 195 (.pointer (some a'))])]) ∧ Below w.heap.size w w' := by
  have blkS := World.block_lt_of_cell? _ _ hS
  have blkR := World.block_lt_of_cell? _ _ hR
  have HR := Lib.hid hR
  have HS := Lib.hid hS
  have hlc := cutS_len bs
  have hok := cutS_ok hb
  have HC := Lib.hid (fun W => cut_b hb (by omega) W)
  have HI := Lib.hid (fun W => iparse_yes (w := W) (L := L) hok.1 hi.1 hi.2 (by omega) (by omega))
  have hdl : (denS bs).length ≤ L + 1 := denS_len bs (by omega) (by omega)
  have HD := Lib.hid (fun W => parse_v (w := W) (L := L + 1) (denS_ok hb) hd.1 hd.2 hdl (by omega))
  have HZ := Lib.hid (show decide (decN (denS bs) = 0) = true by exact decide_eq_true hz)
  clear hb hl hS hR hi hd hz hlc hok hdl
  unfold denS at *
  generalize hsb : strB bs = sb at *
  cases hf : (cutS bs).2.2
  · rw [hf] at HC HD HZ
    simp only [Bool.false_eq_true, if_false] at HD HZ ⊢
    rw [show strB [49] = ⟨#[49]⟩ from rfl] at HD
    generalize decN [49] = dn at *
    generalize (splitM (cutS bs).1).1 = sgn at *
    generalize (splitM (cutS bs).1).2 = dgs at *
    generalize (cutS bs).1 = ts at *
    generalize (cutS bs).2.1 = tr at *
    go_enter Tryz.func25, Tryz.ntmps25
    go_wp2_with fail
    obtain ⟨W0, hW, b0, hbW, hszW0⟩ := boxes1 w #[.bool false, .slice none 0 0, .slice none 0 0] 29
    rw [hW]
    clear hW
    have H0 := hbW
    clear hbW
    refine (HC.out _).mono ?_
    rintro e w1 ⟨rfl, hb⟩
    replace b0 := b0.below hb
    replace H0 := H0.trans (hb.mono H0.size)
    clear hb
    go_wp2_with fail
    refine (HI.out _).mono ?_
    rintro e w2 ⟨s1, A1, n1, c1, rfl, fi, hb⟩
    replace b0 := b0.below hb
    replace H0 := H0.trans (hb.mono H0.size)
    clear hb
    have lb0_3 := b0.lt
    obtain ⟨W3, hW, b1, hbW, hszW3⟩ := boxes1 w2 #[.bool s1, .slice A1 n1 c1] 27
    skip
    skip
    replace fi := fi.below hbW
    replace b0 := b0.below hbW
    replace H0 := H0.trans (hbW.mono H0.size)
    clear hbW
    go_wp2_with fail
    clear hW
    refine (HD.out _).mono ?_
    rintro e w4 ⟨A2, n2, c2, rfl, fd, hb⟩
    replace fi := fi.below hb
    replace b0 := b0.below hb
    replace b1 := b1.below hb
    replace H0 := H0.trans (hb.mono H0.size)
    clear hb
    have cS := (H0.cell (p := ⟨0, 0, none⟩) blkS).trans HS.out
    go_wp2_with fail
    clear cS
    refine (is_nil_b _ _ _).mono ?_
    rintro e w5 ⟨rfl, hb⟩
    replace fi := fi.below hb
    replace fd := fd.below hb
    replace b0 := b0.below hb
    replace b1 := b1.below hb
    replace H0 := H0.trans (hb.mono H0.size)
    clear hb
    go_wp2_with fail
    refine (riszero_v fd.rv HZ.out).mono ?_
    rintro e w6 ⟨rfl, hb⟩
    replace fi := fi.below hb
    replace fd := fd.below hb
    replace b0 := b0.below hb
    replace b1 := b1.below hb
    replace H0 := H0.trans (hb.mono H0.size)
    clear hb
    go_wp2_with fail
    clear fi
    clear fd
    have cR := (H0.cell (p := ⟨1, 0, none⟩) blkR).trans HR.out
    have cb00 := b0.cell 0 _ rfl
    have yb00 := b0.frozen 0
    have cb01 := b0.cell 1 _ rfl
    have yb01 := b0.frozen 1
    have cb02 := b0.cell 2 _ rfl
    have yb02 := b0.frozen 2
    go_region
    go_wp2_with fail
    clear cR cb00 yb00 cb01 yb01 cb02 yb02
    have hg := only_store3 (w6) (w.heap.size) (.bool false) (.slice none 0 0) (.slice none 0 0)
    have hB := b0.stored3 (.bool false) (.slice none 0 0) (.slice none 0 0)
    have H9 := (below_only H0 hg (by omega) H0.size).drew
    refine bodyPost_ret (ret_rat_b rfl rfl hB) rfl ?_
    exact ⟨rfl, H9⟩
  · rw [hf] at HC HD HZ
    simp only [if_true] at HD HZ ⊢
    generalize (splitM (cutS bs).1).1 = sgn at *
    generalize (splitM (cutS bs).1).2 = dgs at *
    generalize (cutS bs).1 = ts at *
    generalize (cutS bs).2.1 = tr at *
    go_enter Tryz.func25, Tryz.ntmps25
    go_wp2_with fail
    obtain ⟨W0, hW, b0, hbW, hszW0⟩ := boxes1 w #[.bool false, .slice none 0 0, .slice none 0 0] 29
    rw [hW]
    clear hW
    have H0 := hbW
    clear hbW
    refine (HC.out _).mono ?_
    rintro e w1 ⟨rfl, hb⟩
    replace b0 := b0.below hb
    replace H0 := H0.trans (hb.mono H0.size)
    clear hb
    go_wp2_with fail
    refine (HI.out _).mono ?_
    rintro e w2 ⟨s1, A1, n1, c1, rfl, fi, hb⟩
    replace b0 := b0.below hb
    replace H0 := H0.trans (hb.mono H0.size)
    clear hb
    have lb0_3 := b0.lt
    obtain ⟨W3, hW, b1, hbW, hszW3⟩ := boxes1 w2 #[.bool s1, .slice A1 n1 c1] 27
    skip
    skip
    replace fi := fi.below hbW
    replace b0 := b0.below hbW
    replace H0 := H0.trans (hbW.mono H0.size)
    clear hbW
    go_wp2_with fail
    clear hW
    refine (HD.out _).mono ?_
    rintro e w4 ⟨A2, n2, c2, rfl, fd, hb⟩
    replace fi := fi.below hb
    replace b0 := b0.below hb
    replace b1 := b1.below hb
    replace H0 := H0.trans (hb.mono H0.size)
    clear hb
    have cS := (H0.cell (p := ⟨0, 0, none⟩) blkS).trans HS.out
    go_wp2_with fail
    clear cS
    refine (is_nil_b _ _ _).mono ?_
    rintro e w5 ⟨rfl, hb⟩
    replace fi := fi.below hb
    replace fd := fd.below hb
    replace b0 := b0.below hb
    replace b1 := b1.below hb
    replace H0 := H0.trans (hb.mono H0.size)
    clear hb
    go_wp2_with fail
    refine (riszero_v fd.rv HZ.out).mono ?_
    rintro e w6 ⟨rfl, hb⟩
    replace fi := fi.below hb
    replace fd := fd.below hb
    replace b0 := b0.below hb
    replace b1 := b1.below hb
    replace H0 := H0.trans (hb.mono H0.size)
    clear hb
    go_wp2_with fail
    clear fi
    clear fd
    have cR := (H0.cell (p := ⟨1, 0, none⟩) blkR).trans HR.out
    have cb00 := b0.cell 0 _ rfl
    have yb00 := b0.frozen 0
    have cb01 := b0.cell 1 _ rfl
    have yb01 := b0.frozen 1
    have cb02 := b0.cell 2 _ rfl
    have yb02 := b0.frozen 2
    go_region
    go_wp2_with fail
    clear cR cb00 yb00 cb01 yb01 cb02 yb02
    have hg := only_store3 (w6) (w.heap.size) (.bool false) (.slice none 0 0) (.slice none 0 0)
    have hB := b0.stored3 (.bool false) (.slice none 0 0) (.slice none 0 0)
    have H9 := (below_only H0 hg (by omega) H0.size).drew
    refine bodyPost_ret (ret_rat_b rfl rfl hB) rfl ?_
    exact ⟨rfl, H9⟩
/-- The text of a rational number. -/
def ratB (q : Rat) : List Nat := if q.den = 1 then itoaB q.num else itoaB q.num ++ 47 :: decT q.den
theorem mk_lts {z : Int} {d : Nat} (hz : z.natAbs < Bs L) (hd : d < Bs L) : (mkRat z d).num.natAbs < Bs (max L 2) ∧ (mkRat z d).den < Bs (max L 2) := by
  have h1 := Bs_mono (show L ≤ max L 2 by omega)
  rcases Decidable.em (d = 0) with h0 | h0
  · subst h0
    rw [Rat.mkRat_zero]
    exact ⟨Bs_pos _, Nat.lt_of_lt_of_le (show (1 : Nat) < Bs 1 by rw [Bs_one]; omega) (Bs_mono (by omega))⟩
  · exact ⟨Nat.lt_of_lt_of_le (mk_lt h0 hz) h1, Nat.lt_of_lt_of_le (mk_dlt h0 hd) h1⟩
set_option maxRecDepth 100000 in
set_option maxHeartbeats 800000 in
theorem rformat_v (h : RQ w s0 (.slice A0 n0 c0) (.slice D0 m0 e0) q L) (hL : L ≤ 90) (htab : Lib.TabIs Tryz.prog w "internal/strconv.uint64pow10" .u64 Lib.pow10Tab) :
    Calls Tryz.prog 26 #[.agg #[.bool s0, .slice A0 n0 c0, .slice D0 m0 e0]] w fun e w' => e = .returned (.string (strB (ratB q))) ∧ Below w.heap.size w w' := by
  have HT := Lib.hid (fun (W : World) (h : Below w.heap.size w W) => Go.Joins.tab_stays (show Tryz.prog.globalNamed "internal/strconv.uint64pow10" = some 5 by kernel_rfl) htab h (Nat.le_refl _))
  clear htab
  rcases Decidable.em (q.den = 1) with h1 | h1
  · have HD := Lib.hid (decide_eq_true h1)
    have HX : Hid (ratB q = itoaB q.num) := Lib.hid (if_pos h1)
    clear h1
    go_enter Tryz.func26, Tryz.ntmps26
    go_wp2_with fail
    obtain ⟨W0, hW, b0, hbW, hszW0⟩ := boxes1 w #[.bool s0, .slice A0 n0 c0, .slice D0 m0 e0] 29
    rw [hW]
    clear hW
    replace h := h.below hbW
    have H0 := hbW
    clear hbW
    have cb00 := b0.cell 0 _ rfl
    have cb01 := b0.cell 1 _ rfl
    have cb02 := b0.cell 2 _ rfl
    go_wp2_with fail
    clear cb00 cb01 cb02
    refine (rnorm_v h (by omega)).mono ?_
    rintro e w1 ⟨s1, A1, n1, c1, D1, m1, e1, rfl, fq, hb⟩
    replace h := h.below hb
    replace b0 := b0.below hb
    replace H0 := H0.trans (hb.mono H0.size)
    clear hb
    clear h
    have cb00 := b0.cell 0 _ rfl
    have yb00 := b0.frozen 0
    have cb01 := b0.cell 1 _ rfl
    have yb01 := b0.frozen 1
    have cb02 := b0.cell 2 _ rfl
    have yb02 := b0.frozen 2
    go_wp2_with fail
    clear cb00 yb00 cb01 yb01 cb02 yb02
    have hg := only_store3 w1 (w.heap.size) (.bool s1) (.slice A1 n1 c1) (.slice D1 m1 e1)
    have hB := b0.stored3 (.bool s1) (.slice A1 n1 c1) (.slice D1 m1 e1)
    generalize hX : (((w1.setCell ⟨w.heap.size, 0, none⟩ (.bool s1)).setCell ⟨w.heap.size, 1, none⟩ (.slice A1 n1 c1)).setCell ⟨w.heap.size, 2, none⟩ (.slice D1 m1 e1)) = X2 at hg hB ⊢
    clear hX
    replace fq := fq.kept b0 (by simp [notInt]) hg
    replace b0 := hB
    replace H0 := below_only H0 hg (by omega) H0.size
    clear hg hB
    obtain ⟨fi, fd⟩ := fq
    have cb00 := b0.cell 0 _ rfl
    have cb01 := b0.cell 1 _ rfl
    have cb02 := b0.cell 2 _ rfl
    go_wp2_with fail
    clear cb00 cb01 cb02
    refine (iformat_v fi.ri (by omega) (HT.out _ H0)).mono ?_
    rintro e w3 ⟨rfl, hb⟩
    replace fi := fi.below hb
    replace fd := fd.below hb
    replace b0 := b0.below hb
    replace H0 := H0.trans (hb.mono H0.size)
    clear hb
    have cb00 := b0.cell 0 _ rfl
    have cb01 := b0.cell 1 _ rfl
    have cb02 := b0.cell 2 _ rfl
    go_wp2_with fail
    clear cb00 cb01 cb02
    refine (risone_v fd.rv (b := true) HD.out).mono ?_
    rintro e w4 ⟨rfl, hb⟩
    replace fi := fi.below hb
    replace fd := fd.below hb
    replace b0 := b0.below hb
    replace H0 := H0.trans (hb.mono H0.size)
    clear hb
    go_wp2_with fail
    go_returns
    exact ⟨by rw [HX.out]; rfl, H0⟩
  · have HD := Lib.hid (decide_eq_false h1)
    have HX : Hid (strB (ratB q) = (strB (itoaB q.num) ++ ⟨#[47]⟩) ++ strB (decT q.den)) := Lib.hid (by unfold ratB; rw [if_neg h1, show (⟨#[47]⟩ : ByteArray) = strB [47] from rfl, strB_append, strB_append, List.append_assoc]; rfl)
    obtain ⟨z9, d9, g1, g2, g3⟩ := h
    have hq : q.num.natAbs < Bs (max L 2) ∧ q.den < Bs (max L 2) := by
      rw [g3]; exact mk_lts g1.rv.lt g2.lt
    have h : RQ w s0 (.slice A0 n0 c0) (.slice D0 m0 e0) q L := ⟨z9, d9, g1, g2, g3⟩
    have hza := strB_size (itoaB q.num)
    have hzb := strB_size (decT q.den)
    have hla := itoa_len hq.1
    have hlb := decT_len hq.2
    rw [hza.symm] at hla
    rw [hzb.symm] at hlb
    have h47 : (⟨#[47]⟩ : ByteArray).size = 1 := rfl
    clear hza hzb hq g1 g2 g3 h1
    have hza := hla
    have hzb := hlb
    clear hla hlb
    go_enter Tryz.func26, Tryz.ntmps26
    go_wp2_with fail
    obtain ⟨W0, hW, b0, hbW, hszW0⟩ := boxes1 w #[.bool s0, .slice A0 n0 c0, .slice D0 m0 e0] 29
    rw [hW]
    clear hW
    replace h := h.below hbW
    have H0 := hbW
    clear hbW
    have cb00 := b0.cell 0 _ rfl
    have cb01 := b0.cell 1 _ rfl
    have cb02 := b0.cell 2 _ rfl
    go_wp2_with fail
    clear cb00 cb01 cb02
    refine (rnorm_v h (by omega)).mono ?_
    rintro e w1 ⟨s1, A1, n1, c1, D1, m1, e1, rfl, fq, hb⟩
    replace h := h.below hb
    replace b0 := b0.below hb
    replace H0 := H0.trans (hb.mono H0.size)
    clear hb
    clear h
    have cb00 := b0.cell 0 _ rfl
    have yb00 := b0.frozen 0
    have cb01 := b0.cell 1 _ rfl
    have yb01 := b0.frozen 1
    have cb02 := b0.cell 2 _ rfl
    have yb02 := b0.frozen 2
    go_wp2_with fail
    clear cb00 yb00 cb01 yb01 cb02 yb02
    have hg := only_store3 w1 (w.heap.size) (.bool s1) (.slice A1 n1 c1) (.slice D1 m1 e1)
    have hB := b0.stored3 (.bool s1) (.slice A1 n1 c1) (.slice D1 m1 e1)
    generalize hX : (((w1.setCell ⟨w.heap.size, 0, none⟩ (.bool s1)).setCell ⟨w.heap.size, 1, none⟩ (.slice A1 n1 c1)).setCell ⟨w.heap.size, 2, none⟩ (.slice D1 m1 e1)) = X2 at hg hB ⊢
    clear hX
    replace fq := fq.kept b0 (by simp [notInt]) hg
    replace b0 := hB
    replace H0 := below_only H0 hg (by omega) H0.size
    clear hg hB
    obtain ⟨fi, fd⟩ := fq
    have cb00 := b0.cell 0 _ rfl
    have cb01 := b0.cell 1 _ rfl
    have cb02 := b0.cell 2 _ rfl
    go_wp2_with fail
    clear cb00 cb01 cb02
    refine (iformat_v fi.ri (by omega) (HT.out _ H0)).mono ?_
    rintro e w3 ⟨rfl, hb⟩
    replace fi := fi.below hb
    replace fd := fd.below hb
    replace b0 := b0.below hb
    replace H0 := H0.trans (hb.mono H0.size)
    clear hb
    have cb00 := b0.cell 0 _ rfl
    have cb01 := b0.cell 1 _ rfl
    have cb02 := b0.cell 2 _ rfl
    go_wp2_with fail
    clear cb00 cb01 cb02
    refine (risone_v fd.rv (b := false) HD.out).mono ?_
    rintro e w4 ⟨rfl, hb⟩
    replace fi := fi.below hb
    replace fd := fd.below hb
    replace b0 := b0.below hb
    replace H0 := H0.trans (hb.mono H0.size)
    clear hb
    have cb00 := b0.cell 0 _ rfl
    have cb01 := b0.cell 1 _ rfl
    have cb02 := b0.cell 2 _ rfl
    go_wp2_with fail
    clear cb00 cb01 cb02
    refine (fmt_v fd.rv (by omega) (HT.out _ H0)).mono ?_
    rintro e w5 ⟨rfl, hb⟩
    replace fi := fi.below hb
    replace fd := fd.below hb
    replace b0 := b0.below hb
    replace H0 := H0.trans (hb.mono H0.size)
    clear hb
    generalize hsa : strB (itoaB q.num) = sa at hza HX ⊢
    generalize hsb : strB (decT q.den) = sb at hzb HX ⊢
    go_wp2_with fail
    go_returns
    exact ⟨by rw [HX.out]; rfl, H0⟩
theorem dig_in {l : List Nat} (h : l.all (fun b => decide (48 ≤ b) && decide (b ≤ 57)) = true) : ∀ b ∈ l, Dig b := fun b hb => by
  have := List.all_eq_true.1 h b hb
  simp only [Bool.and_eq_true, decide_eq_true_eq] at this
  exact this
end
end Go.Proofs.YtancgkmkbgkncaaGreatDoor
