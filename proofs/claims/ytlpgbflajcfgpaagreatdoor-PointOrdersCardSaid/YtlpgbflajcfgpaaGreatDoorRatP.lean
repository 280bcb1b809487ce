/-
  Parse and Format of rational numbers.
-/
import Derived.Test.YtlpgbflajcfgpaaGreatDoorRatD
import Derived.Test.YtlpgbflajcfgpaaGreatDoorCut
import Derived.Test.YtlpgbflajcfgpaaGreatDoorT1
import Derived.Test.YtlpgbflajcfgpaaGreatDoorLawITexts
namespace Go.Proofs.YtlpgbflajcfgpaaGreatDoor
open Go.RowKit

section
variable {A0 A1 A2 A3 D0 D1 D2 D3 : Option Addr} {n0 n1 n2 n3 c0 c1 c2 c3 m0 m1 m2 m3 e0 e1 e2 e3 : Nat} {s0 s1 s2 s3 : Bool} {z z' z0 z1 z2 : Int} {q q' q0 q1 q2 : Rat} {L L0 L1 L2 x x0 x1 y : Nat} {k : Int} {w : World} {bs : List Nat} {a a' : Addr}
/-- The text of a rational number. -/
def ratB (q : Rat) : List Nat := if q.den = 1 then itoaB q.num else itoaB q.num ++ 47 :: decT q.den
theorem mk_lts {z : Int} {d : Nat} (hz : z.natAbs < Bs L) (hd : d < Bs L) : (mkRat z d).num.natAbs < Bs (max L 2) ∧ (mkRat z d).den < Bs (max L 2) := by
  have h1 := Bs_mono (show L ≤ max L 2 by omega)
  rcases Decidable.em (d = 0) with h0 | h0
  · subst h0
    rw [Rat.mkRat_zero]
    exact ⟨Bs_pos _, Nat.lt_of_lt_of_le (show (1 : Nat) < Bs 1 by rw [Bs_one]; omega) (Bs_mono (by omega))⟩
  · exact ⟨Nat.lt_of_lt_of_le (mk_lt h0 hz) h1, Nat.lt_of_lt_of_le (mk_dlt h0 hd) h1⟩
set_option maxRecDepth 100000 in
set_option maxHeartbeats 800000 in
theorem rformat_v (h : RQ w s0 (.slice A0 n0 c0) (.slice D0 m0 e0) q L) (hL : L ≤ 90) (htab : Lib.TabIs Tryz.prog w "internal/strconv.uint64pow10" .u64 Lib.pow10Tab) :
    Calls Tryz.prog 98 #[.agg #[.bool s0, .slice A0 n0 c0, .slice D0 m0 e0]] w fun e w' => e = .returned (.string (strB (ratB q))) ∧ Below w.heap.size w w' := by
  have HT := Lib.hid (fun (W : World) (h : Below w.heap.size w W) => Go.Joins.tab_stays (show Tryz.prog.globalNamed "internal/strconv.uint64pow10" = some 5 by kernel_rfl) htab h (Nat.le_refl _))
  clear htab
  rcases Decidable.em (q.den = 1) with h1 | h1
  · have HD := Lib.hid (decide_eq_true h1)
    have HX : Hid (ratB q = itoaB q.num) := Lib.hid (if_pos h1)
    clear h1
    go_enter Tryz.func98, Tryz.ntmps98
    go_wp2_with fail
    obtain ⟨W0, hW, b0, hbW, hszW0⟩ := boxes1 w #[.bool s0, .slice A0 n0 c0, .slice D0 m0 e0] 27
    rw [hW]
    clear hW
    replace h := h.below hbW
    have H0 := hbW
    clear hbW
    have cb00 := b0.cell 0 _ rfl
    have cb01 := b0.cell 1 _ rfl
    have cb02 := b0.cell 2 _ rfl
    go_wp2_with fail
    clear cb00 cb01 cb02
    refine (rnorm_v h (by omega)).mono ?_
    rintro e w1 ⟨s1, A1, n1, c1, D1, m1, e1, rfl, fq, hb⟩
    replace h := h.below hb
    replace b0 := b0.below hb
    replace H0 := H0.trans (hb.mono H0.size)
    clear hb
    clear h
    have cb00 := b0.cell 0 _ rfl
    have yb00 := b0.frozen 0
    have cb01 := b0.cell 1 _ rfl
    have yb01 := b0.frozen 1
    have cb02 := b0.cell 2 _ rfl
    have yb02 := b0.frozen 2
    go_wp2_with fail
    clear cb00 yb00 cb01 yb01 cb02 yb02
    have hg := only_store3 w1 (w.heap.size) (.bool s1) (.slice A1 n1 c1) (.slice D1 m1 e1)
    have hB := b0.stored3 (.bool s1) (.slice A1 n1 c1) (.slice D1 m1 e1)
    generalize hX : (((w1.setCell ⟨w.heap.size, 0, none⟩ (.bool s1)).setCell ⟨w.heap.size, 1, none⟩ (.slice A1 n1 c1)).setCell ⟨w.heap.size, 2, none⟩ (.slice D1 m1 e1)) = X2 at hg hB ⊢
    clear hX
    replace fq := fq.kept b0 (by simp [notInt]) hg
    replace b0 := hB
    replace H0 := below_only H0 hg (by omega) H0.size
    clear hg hB
    obtain ⟨fi, fd⟩ := fq
    have cb00 := b0.cell 0 _ rfl
    have cb01 := b0.cell 1 _ rfl
    have cb02 := b0.cell 2 _ rfl
    go_wp2_with fail
    clear cb00 cb01 cb02
    refine (iformat_v fi.ri (by omega) (HT.out _ H0)).mono ?_
    rintro e w3 ⟨rfl, hb⟩
    replace fi := fi.below hb
    replace fd := fd.below hb
    replace b0 := b0.below hb
    replace H0 := H0.trans (hb.mono H0.size)
    clear hb
    have cb00 := b0.cell 0 _ rfl
    have cb01 := b0.cell 1 _ rfl
    have cb02 := b0.cell 2 _ rfl
    go_wp2_with fail
    clear cb00 cb01 cb02
    refine (risone_v fd.rv (b := true) HD.out).mono ?_
    rintro e w4 ⟨rfl, hb⟩
    replace fi := fi.below hb
    replace fd := fd.below hb
    replace b0 := b0.below hb
    replace H0 := H0.trans (hb.mono H0.size)
    clear hb
    go_wp2_with fail
    go_returns
    exact ⟨by rw [HX.out]; rfl, H0⟩
  · have HD := Lib.hid (decide_eq_false h1)
    have HX : Hid (strB (ratB q) = (strB (itoaB q.num) ++ ⟨#[47]⟩) ++ strB (decT q.den)) := Lib.hid (by unfold ratB; rw [if_neg h1, show (⟨#[47]⟩ : ByteArray) = strB [47] from rfl, strB_append, strB_append, List.append_assoc]; rfl)
    obtain ⟨z9, d9, g1, g2, g3⟩ := h
    have hq : q.num.natAbs < Bs (max L 2) ∧ q.den < Bs (max L 2) := by
      rw [g3]; exact mk_lts g1.rv.lt g2.lt
    have h : RQ w s0 (.slice A0 n0 c0) (.slice D0 m0 e0) q L := ⟨z9, d9, g1, g2, g3⟩
    have hza := strB_size (itoaB q.num)
    have hzb := strB_size (decT q.den)
    have hla := itoa_len hq.1
    have hlb := decT_len hq.2
    rw [hza.symm] at hla
    rw [hzb.symm] at hlb
    have h47 : (⟨#[47]⟩ : ByteArray).size = 1 := rfl
    clear hza hzb hq g1 g2 g3 h1
    have hza := hla
    have hzb := hlb
    clear hla hlb
    go_enter Tryz.func98, Tryz.ntmps98
    go_wp2_with fail
    obtain ⟨W0, hW, b0, hbW, hszW0⟩ := boxes1 w #[.bool s0, .slice A0 n0 c0, .slice D0 m0 e0] 27
    rw [hW]
    clear hW
    replace h := h.below hbW
    have H0 := hbW
    clear hbW
    have cb00 := b0.cell 0 _ rfl
    have cb01 := b0.cell 1 _ rfl
    have cb02 := b0.cell 2 _ rfl
    go_wp2_with fail
    clear cb00 cb01 cb02
    refine (rnorm_v h (by omega)).mono ?_
    rintro e w1 ⟨s1, A1, n1, c1, D1, m1, e1, rfl, fq, hb⟩
    replace h := h.below hb
    replace b0 := b0.below hb
    replace H0 := H0.trans (hb.mono H0.size)
    clear hb
    clear h
    have cb00 := b0.cell 0 _ rfl
    have yb00 := b0.frozen 0
    have cb01 := b0.cell 1 _ rfl
    have yb01 := b0.frozen 1
    have cb02 := b0.cell 2 _ rfl
    have yb02 := b0.frozen 2
    go_wp2_with fail
    clear cb00 yb00 cb01 yb01 cb02 yb02
    have hg := only_store3 w1 (w.heap.size) (.bool s1) (.slice A1 n1 c1) (.slice D1 m1 e1)
    have hB := b0.stored3 (.bool s1) (.slice A1 n1 c1) (.slice D1 m1 e1)
    generalize hX : (((w1.setCell ⟨w.heap.size, 0, none⟩ (.bool s1)).setCell ⟨w.heap.size, 1, none⟩ (.slice A1 n1 c1)).setCell ⟨w.heap.size, 2, none⟩ (.slice D1 m1 e1)) = X2 at hg hB ⊢
    clear hX
    replace fq := fq.kept b0 (by simp [notInt]) hg
    replace b0 := hB
    replace H0 := below_only H0 hg (by omega) H0.size
    clear hg hB
    obtain ⟨fi, fd⟩ := fq
    have cb00 := b0.cell 0 _ rfl
    have cb01 := b0.cell 1 _ rfl
    have cb02 := b0.cell 2 _ rfl
    go_wp2_with fail
    clear cb00 cb01 cb02
    refine (iformat_v fi.ri (by omega) (HT.out _ H0)).mono ?_
    rintro e w3 ⟨rfl, hb⟩
    replace fi := fi.below hb
    replace fd := fd.below hb
    replace b0 := b0.below hb
    replace H0 := H0.trans (hb.mono H0.size)
    clear hb
    have cb00 := b0.cell 0 _ rfl
    have cb01 := b0.cell 1 _ rfl
    have cb02 := b0.cell 2 _ rfl
    go_wp2_with fail
    clear cb00 cb01 cb02
    refine (risone_v fd.rv (b := false) HD.out).mono ?_
    rintro e w4 ⟨rfl, hb⟩
    replace fi := fi.below hb
    replace fd := fd.below hb
    replace b0 := b0.below hb
    replace H0 := H0.trans (hb.mono H0.size)
    clear hb
    have cb00 := b0.cell 0 _ rfl
    have cb01 := b0.cell 1 _ rfl
    have cb02 := b0.cell 2 _ rfl
    go_wp2_with fail
    clear cb00 cb01 cb02
    refine (fmt_v fd.rv (by omega) (HT.out _ H0)).mono ?_
    rintro e w5 ⟨rfl, hb⟩
    replace fi := fi.below hb
    replace fd := fd.below hb
    replace b0 := b0.below hb
    replace H0 := H0.trans (hb.mono H0.size)
    clear hb
    generalize hsa : strB (itoaB q.num) = sa at hza HX ⊢
    generalize hsb : strB (decT q.den) = sb at hzb HX ⊢
    go_wp2_with fail
    go_returns
    exact ⟨by rw [HX.out]; rfl, H0⟩
end
end Go.Proofs.YtlpgbflajcfgpaaGreatDoor
