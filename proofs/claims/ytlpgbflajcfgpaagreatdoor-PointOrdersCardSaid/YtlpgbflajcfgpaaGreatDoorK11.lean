/-
  TextV, TextI, TextJ in one text.
-/
import Derived.Test.YtlpgbflajcfgpaaGreatDoorT1
import Derived.Test.YtlpgbflajcfgpaaGreatDoorReads
import Derived.Test.YtlpgbflajcfgpaaGreatDoorS1
import Derived.Test.YtlpgbflajcfgpaaGreatDoorK10
import Derived.Test.YtlpgbflajcfgpaaGreatDoorK8
namespace Go.Proofs.YtlpgbflajcfgpaaGreatDoor
open Go.RowKit

theorem fmt_v {A : Option Addr} {n c x L : Nat} {w : World} (hx : RV w (.slice A n c) x L) (hL : L ≤ 1000) (htab : Lib.TabIs Tryz.prog w "internal/strconv.uint64pow10" .u64 Lib.pow10Tab) :
    Calls Tryz.prog 135 #[.slice A n c] w fun e w' => e = .returned (.string (strB (decT x))) ∧ Below w.heap.size w w' := by
  obtain ⟨ds, h1, h2, h3⟩ := hx
  exact format_any h1 (Lib.hid h2) (by omega) htab
end Go.Proofs.YtlpgbflajcfgpaaGreatDoor
namespace Go.Proofs.YtlpgbflajcfgpaaGreatDoor
open Go.RowKit

section
variable {bs : List Nat} {L : Nat} {w : World}
end
end Go.Proofs.YtlpgbflajcfgpaaGreatDoor
namespace Go.Proofs.YtlpgbflajcfgpaaGreatDoor
open Go.RowKit

section
variable {bs : List Nat} {L : Nat} {w : World}
end
/-- The text of an integer. -/
def itoaB (z : Int) : List Nat := (if z < 0 then [45] else []) ++ decT z.natAbs
section
variable {A : Option Addr} {n c L : Nat} {s : Bool} {z : Int} {w : World}
set_option maxRecDepth 100000 in
theorem iformat_v (h : RI w s (.slice A n c) z L) (hL : L ≤ 100) (htab : Lib.TabIs Tryz.prog w "internal/strconv.uint64pow10" .u64 Lib.pow10Tab) :
    Calls Tryz.prog 134 #[.agg #[.bool s, .slice A n c]] w fun e w' => e = .returned (.string (strB (itoaB z))) ∧ Below w.heap.size w w' := by
  have H := fun W (hbW : Below w.heap.size w W) => fmt_v (h.below hbW).rv (by omega) (Go.Joins.tab_stays (show Tryz.prog.globalNamed "internal/strconv.uint64pow10" = some 5 by kernel_rfl) htab hbW (Nat.le_refl _))
  have HH := Lib.hid H
  have hlen := decT_len h.rv.lt
  have hsz := strB_size (decT z.natAbs)
  have hit : itoaB z = (if z < 0 then [45] else []) ++ decT z.natAbs := rfl
  have hap : (⟨#[45]⟩ : ByteArray) ++ strB (decT z.natAbs) = strB ([45] ++ decT z.natAbs) := strB_append [45] _
  generalize decT z.natAbs = ds at *
  have hsum : ¬ 9223372036854775807 < 1 + (strB ds).size := by rw [hsz]; omega
  have hsum2 : ¬ 9223372036854775807 < (⟨#[45]⟩ : ByteArray).size + (strB ds).size := by
    have : (⟨#[45]⟩ : ByteArray).size = 1 := rfl
    rw [this]; exact hsum
  have HIT := Lib.hid hit
  obtain ⟨k, hk⟩ : ∃ k, z.sign = k := ⟨_, rfl⟩
  have HK := Lib.hid hk
  clear H htab hit hlen
  by_cases hz : z < 0
  · have hk1 : k = -1 := by rw [← hk]; exact Int.sign_eq_neg_one_of_neg hz
    subst hk1
    have HZ := Lib.hid hz
    clear hk hz
    go_enter Tryz.func134, Tryz.ntmps134
    go_wp2_with fail
    obtain ⟨W, hW, b0, hbW, hsW⟩ := boxes1 w #[.bool s, .slice A n c] 25
    rw [hW]
    clear hW
    refine (HH.out W hbW).mono ?_
    rintro e w1 ⟨rfl, hb0⟩
    have hb := hbW.trans (hb0.mono hbW.size)
    have h1 := h.below hb
    have q0 := b0.below hb0
    have a0 := q0.cell 0 _ rfl
    have a1 := q0.cell 1 _ rfl
    go_wp2_with fail
    refine (isign_is h1 HK.out).mono ?_
    rintro e w2 ⟨rfl, hb2⟩
    have hb3 := hb.trans (hb2.mono hb.size)
    go_wp2_with fail
    go_returns
    exact ⟨by rw [HIT.out, if_pos HZ.out]; rfl, hb3⟩
  · have hk1 : ¬ k < 0 := by rcases sign_cases z with h | h | h <;> omega
    have hkd : decide (k < 0) = false := decide_eq_false hk1
    have HZ := Lib.hid hz
    clear hk hz
    go_enter Tryz.func134, Tryz.ntmps134
    go_wp2_with fail
    obtain ⟨W, hW, b0, hbW, hsW⟩ := boxes1 w #[.bool s, .slice A n c] 25
    rw [hW]
    clear hW
    refine (HH.out W hbW).mono ?_
    rintro e w1 ⟨rfl, hb0⟩
    have hb := hbW.trans (hb0.mono hbW.size)
    have h1 := h.below hb
    have q0 := b0.below hb0
    have a0 := q0.cell 0 _ rfl
    have a1 := q0.cell 1 _ rfl
    go_wp2_with fail
    refine (isign_is h1 HK.out).mono ?_
    rintro e w2 ⟨rfl, hb2⟩
    have hb3 := hb.trans (hb2.mono hb.size)
    go_wp2_with fail
    go_returns
    exact ⟨by rw [HIT.out, if_neg (by have := HZ.out; omega)]; rfl, hb3⟩
end
end Go.Proofs.YtlpgbflajcfgpaaGreatDoor
