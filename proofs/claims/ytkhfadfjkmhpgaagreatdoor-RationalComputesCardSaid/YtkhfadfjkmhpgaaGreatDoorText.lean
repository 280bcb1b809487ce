/-
  The contract of the reference's Text.
-/
import Derived.Test.YtkhfadfjkmhpgaaGreatDoorK6
import Derived.Test.YtkhfadfjkmhpgaaGreatDoorK10
import Derived.Test.YtkhfadfjkmhpgaaGreatDoorK3
import Derived.Test.YtkhfadfjkmhpgaaGreatDoorBox
namespace Go.Proofs.YtkhfadfjkmhpgaaGreatDoor
open Go.RowKit

/-- The digits of a number as a text, "0" for 0. -/
def decT (x : Nat) : List Nat := if x = 0 then [48] else decs x
def strLn : Value → Nat
  | .string s => s.size
  | _ => 0
theorem strB_append (a b : List Nat) : strB a ++ strB b = strB (a ++ b) := by
  apply ByteArray.ext
  simp [strB]
theorem convert_one {w : World} {g : Nat} {d : Nat} {z : Int} {t : TypeId} (hz : z = (d : Int)) (h : w.heap[g]? = some (.cells #[.int .u8 z] t (0, 0))) (hd : d < 256) :
    (convert 171 9 (.slice (some ⟨g, 0, none⟩) 1 1)).run Tryz.prog w = .ok (.string (strB [d])) w := by
  subst hz
  have := run_convert_bytes_back (P := Tryz.prog) w 171 9 5 ⟨g, 0, none⟩ 1 [UInt8.ofNat d] Tryz.underlying171 Tryz.underlying5 Tryz.underlying9 (fun j hj => by
    have hj0 : j = 0 := by simpa using hj
    subst hj0
    rw [addr_add_lit, Nat.zero_add, cell_of_row w g 0 _ _ _ h]
    simp [UInt8.toNat_ofNat_of_lt' (show d < UInt8.size from hd)])
  exact this

theorem Bs_ten (k : Nat) : Bs k ≤ 10 ^ (10 * k) := by
  rw [Nat.pow_mul]
  exact Nat.pow_le_pow_left (by decide) k

set_option maxRecDepth 100000 in
set_option maxHeartbeats 3200000 in
theorem text_pos {A : Option Addr} {n c x : Nat} {w : World} (hX : Num w (.slice A n c) x) (hx0 : 0 < x) (hn9 : n ≤ 1000) :
    Calls Tryz.prog 98 #[.slice A n c] w fun e w' => e = .returned (.string (strB (decs x))) ∧ Below w.heap.size w w' := by
  have hnp : 0 < n := by rw [(Raw.cap hX).1]; exact digs_length_pos hx0
  have hn0 : ((n : Int) == 0) = false := by rw [beq_eq_false_iff_ne]; omega
  have hn0' : ¬ n = 0 := by omega
  have HX := Lib.hid hX
  obtain ⟨L, hL⟩ : ∃ L, (decs x).length = L := ⟨_, rfl⟩
  have HL := Lib.hid hL
  have hLb : L ≤ 10000 := by
    rw [← hL]
    exact Nat.le_trans (decs_length (10 * n) x (Nat.lt_of_lt_of_le (lt_of_digs_length (by rw [← (Raw.cap hX).1]; exact Nat.le_refl _)) (Bs_ten n))) (by omega)
  clear hX hL
  go_enter Tryz.func98, Tryz.ntmps98
  go_wp2_with fail
  go_loopw [0, 3] (fun av sv wr => ∃ (y : Nat) (bs : List Nat) (B : Option Addr) (k d : Nat), av = .slice B k d ∧ sv = .string (strB bs) ∧ Num wr (.slice B k d) y ∧ k ≤ 1000 ∧ decs x = decs y ++ bs ∧ Below w.heap.size w wr) (fun _ sv _ => L - strLn sv)
  case atStart => exact ⟨x, [], A, n, c, rfl, rfl, HX.out, hn9, by simp, Below.refl _ _⟩
  case round =>
    obtain ⟨y, bs, B, k, d, rfl, rfl, hN, hk, hdx, hbr⟩ := hrel
    have HDX := Lib.hid hdx
    have HN := Lib.hid hN
    rcases Nat.eq_zero_or_pos y with rfl | hy
    · have hk0 : k = 0 := by have h := (Raw.cap hN).1; rw [digs_zero] at h; exact h
      subst hk0
      have hdone : decs x = bs := by rw [hdx, decs_zero]; rfl
      have HDONE := Lib.hid hdone
      clear hdx hN hdone
      go_wp2_with fail
      go_ret
      exact ⟨by rw [HDONE.out]; rfl, hbr⟩
    · have hkp : 0 < k := by rw [(Raw.cap hN).1]; exact digs_length_pos hy
      have hkp' : (0 : Int) < (k : Int) := by omega
      obtain ⟨V, hV, b1, hbV, hsV⟩ := boxes1 wr #[.int .u32 10] 77
      have hten : Num V (.slice (some ⟨wr.heap.size, 0, none⟩) 1 1) 10 := by rw [← hV]; unfold Num; rw [digs_one_digit (by omega) (by omega)]; exact raw_lit wr _ _ 1 _ rfl (okD_one (by omega)) rfl (by decide) rfl
      have hdv := ndivide_is (Num.below hN hbV) hten (by omega) hk
      have HDV := Lib.hid hdv
      have hdy := decs_pos hy
      rw [hdy, List.append_assoc] at hdx
      have HD2 := Lib.hid hdx
      have hlen : (strB bs).size < L := by rw [strB_size, ← HL.out, hdx]; simp; omega
      have hk2 : (digs (y / 10)).length ≤ 1000 := Nat.le_trans (digs_length_mono (Nat.div_le_self y 10)) (by rw [← (Raw.cap hN).1]; exact hk)
      clear hdv hdy hdx hN hten b1 hsV
      obtain ⟨q, hq⟩ : ∃ q, y / 10 = q := ⟨_, rfl⟩
      obtain ⟨r, hr⟩ : ∃ r, y % 10 = r := ⟨_, rfl⟩
      have hr10 : r < 10 := by omega
      rw [hq] at hk2
      have HQ := Lib.hid hq
      have HR := Lib.hid hr
      rw [hq, hr] at HDV HD2
      clear hq hr
      go_wp2_with fail
      refine HDV.out.mono ?_
      rintro e w2 ⟨B2, k2, d2, B3, k3, d3, rfl, hQ, hR, hb2⟩
      have hb3 := hbr.trans ((hbV.trans (hb2.mono hbV.size)).mono hbr.size)
      have hkq : k2 ≤ 1000 := by rw [(Raw.cap hQ).1]; exact hk2
      rcases Nat.eq_zero_or_pos r with rfl | hr0
      · have hk30 : k3 = 0 := by have h := (Raw.cap hR).1; rw [digs_zero] at h; exact h
        subst hk30
        have hcv := convert_one (d := 48) rfl (heap_alloc_new w2 (.cells #[.int .u8 48] 5)) (by omega)
        have hap : strB [48] ++ strB bs = strB (48 :: bs) := strB_append _ _
        have hsum : ¬ 9223372036854775807 < (strB [48]).size + (strB bs).size := by rw [strB_size]; simp; omega
        have hb4 := hb3.trans ((below_alloc w2 (.cells #[.int .u8 48] 5)).mono hb3.size)
        have hQ2 := Num.below hQ (below_alloc w2 (.cells #[.int .u8 48] 5))
        go_wp2_with fail
        go_roundw
        case rel => exact ⟨q, 48 :: bs, B2, k2, d2, rfl, rfl, hQ2, hkq, by rw [HD2.out]; rfl, hb4⟩
        case measure =>
          simp only [strLn]
          rw [strB_size] at hlen ⊢
          rw [strB_size, List.length_cons]
          omega
      · have hk31 : k3 = 1 := by have h := (Raw.cap hR).1; rw [digs_one_digit hr0 (by omega)] at h; exact h
        subst hk31
        obtain ⟨ad, hA, _, hc⟩ := Raw.at_ (j := 0) hR (by rw [digs_one_digit hr0 (by omega)]; simp)
        rw [digs_digit, Bs_zero, Nat.div_one, Nat.mod_eq_of_lt (by omega)] at hc
        rw [show ad.add 0 = ad from rfl] at hc
        subst hA
        obtain ⟨d0, hd0⟩ : ∃ d0, 48 + r = d0 := ⟨_, rfl⟩
        have hdi : (48 : Int) + (r : Int) = (d0 : Int) := by omega
        have hd9 : d0 < 58 := by omega
        have v1 : IntKind.u8.wrap (r : Int) = (r : Int) := by simp [IntKind.wrap, IntKind.bits, IntKind.signed]; omega
        have v2 : IntKind.u8.wrap (d0 : Int) = (d0 : Int) := by simp [IntKind.wrap, IntKind.bits, IntKind.signed]; omega
        have hcv := convert_one (d := d0) rfl (heap_alloc_new w2 (.cells #[.int .u8 (d0 : Int)] 5)) (by omega)
        have hap : strB [d0] ++ strB bs = strB (d0 :: bs) := strB_append _ _
        have hsum : ¬ 9223372036854775807 < (strB [d0]).size + (strB bs).size := by rw [strB_size]; simp; omega
        have hb4 := hb3.trans ((below_alloc w2 (.cells #[.int .u8 (d0 : Int)] 5)).mono hb3.size)
        have hQ2 := Num.below hQ (below_alloc w2 (.cells #[.int .u8 (d0 : Int)] 5))
        rw [hd0] at HD2
        clear hd0
        go_wp2_with fail
        go_roundw
        case rel => exact ⟨q, d0 :: bs, B2, k2, d2, rfl, rfl, hQ2, hkq, by rw [HD2.out]; rfl, hb4⟩
        case measure =>
          simp only [strLn]
          rw [strB_size] at hlen ⊢
          rw [strB_size, List.length_cons]
          omega
theorem text_any {A : Option Addr} {n c x : Nat} {w : World} (hX : Num w (.slice A n c) x) (hn9 : n ≤ 1000) :
    Calls Tryz.prog 98 #[.slice A n c] w fun e w' => e = .returned (.string (strB (decT x))) ∧ Below w.heap.size w w' := by
  rcases Nat.eq_zero_or_pos x with rfl | h
  · have hn0 : n = 0 := by have h := (Raw.cap hX).1; rw [digs_zero] at h; exact h
    subst hn0
    have hd : strB (decT 0) = ⟨#[48]⟩ := rfl
    rw [hd]
    go_enter Tryz.func98, Tryz.ntmps98
    go_wp2_with fail
    go_ret
    exact ⟨rfl, Below.refl _ _⟩
  · have hd : decT x = decs x := by unfold decT; rw [if_neg (by omega)]
    rw [hd]
    exact text_pos hX h hn9
end Go.Proofs.YtkhfadfjkmhpgaaGreatDoor
