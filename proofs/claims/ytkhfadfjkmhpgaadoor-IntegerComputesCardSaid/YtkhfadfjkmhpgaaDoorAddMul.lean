/-
  The contract of addMultiple.
-/
import Derived.Test.YtkhfadfjkmhpgaaDoorTrim
namespace Go.Proofs.YtkhfadfjkmhpgaaDoor
open Go.RowKit

theorem mul_bound2 {p d : Nat} (hp : p < 4294967296) (hd : d < 4294967296) : p * d ≤ 18446744065119617025 := by
  have h1 : p * d ≤ 4294967295 * 4294967295 := Nat.mul_le_mul (by omega) (by omega)
  omega
theorem only_drewN' {a w : World} {row : Option Nat} (h : a.grownBy w row) (n : Nat) : a.grownBy (w.drewN n) row := ⟨h.os, h.tape, h.output, h.size, h.block⟩
theorem only_set {a w : World} {g : Nat} (h : a.grownBy w (some g)) (j : Nat) (u : Value) : a.grownBy (w.setCell ⟨g, j, none⟩ u) (some g) :=
  ⟨h.os, h.tape, h.output, by simpa [World.setCell] using h.size, fun i hi hne => (Below.heap_setCell w ⟨g, j, none⟩ u i (by rintro rfl; exact hne rfl)).trans (h.block i hi hne)⟩
theorem getD_of_drop {a b : List Nat} {i : Nat} (h : a.drop i = b.drop i) : a.getD i 0 = b.getD i 0 := by
  have := congrArg (fun l => l[0]?) h
  simp only [List.getElem?_drop, Nat.add_zero] at this
  rw [List.getD_eq_getElem?_getD, List.getD_eq_getElem?_getD, this]
theorem addmul_round {V b carry S D E d de dz : Nat} (h : V + b * carry = S + D * (d * E)) (t q : Nat) (hq : t = q % 4294967296) (hs : q = carry + (d * de + dz)) {bk : Nat} (hb : b = D * bk) :
    V + b * t + 4294967296 * b * (q / 4294967296) = S + b * dz + D * (d * (E + bk * de)) := by
  have e := Nat.mod_add_div q 4294967296
  generalize q / 4294967296 = z at *
  subst hq hb
  generalize q % 4294967296 = r at *
  grind

set_option maxRecDepth 100000 in
set_option maxHeartbeats 800000 in
theorem addmul_any {g o n c c' : Nat} {A' : Option Addr} {zs es : List Nat} {w : World} (d : Nat) (hd : d < 4294967296) (hz : Own w g zs) (hzd : OkD zs) (hzl : zs.length ≤ 1000000000)
    (hy : Raw w (.slice A' n c') es) (hne : 0 < es.length → ∀ ad, A' = some ad → ad.block ≠ g) (hon : o + n ≤ zs.length) (hc : n ≤ c) :
    Calls Tryd.prog 59 #[.slice (some ⟨g, o, none⟩) n c, .slice A' n c', .int .u32 (d : Int)] w fun e w' => ∃ (carry : Nat) (zs' : List Nat), e = .returned (.int .u32 (carry : Int)) ∧ carry < 4294967296 ∧ Own w' g zs' ∧ OkD zs' ∧ zs'.length = zs.length ∧ w.grownBy w' (some g) ∧
      zs'.take o = zs.take o ∧ zs'.drop (o + n) = zs.drop (o + n) ∧ val (zs'.take (o + n)) + Bs (o + n) * carry = val (zs.take (o + n)) + Bs o * (d * val es) := by
  obtain ⟨hn, hc'⟩ := hy.cap
  subst hn
  go_enter Tryd.func59, Tryd.ntmps59
  go_wp2_with fail
  go_loopw [7, 11] (fun cr i wr => ∃ (k carry : Nat) (zk : List Nat), i = .int .i64 k ∧ cr = .int .u64 carry ∧ k ≤ es.length ∧ carry < 4294967296 ∧ zk.length = zs.length ∧ OkD zk ∧ Own wr g zk ∧ w.grownBy wr (some g) ∧
      zk.take o = zs.take o ∧ zk.drop (o + k) = zs.drop (o + k) ∧ val (zk.take (o + k)) + Bs (o + k) * carry = val (zs.take (o + k)) + Bs o * (d * val (es.take k))) (fun _ i _ => es.length - (intOf i).toNat)
  case atStart => exact ⟨0, 0, zs, rfl, rfl, Nat.zero_le _, by omega, rfl, hzd, hz, World.grownBy.refl w _, rfl, rfl, by simp [val]⟩
  case round =>
    obtain ⟨k, carry, zk, rfl, rfl, hk, hcar, hzkl, hzkd, hzko, hgr, ht, hdr, hv⟩ := hrel
    have HV := Lib.hid hv
    have HT := Lib.hid ht
    have HDR := Lib.hid hdr
    have HZL := Lib.hid hzkl
    clear hv ht hdr hzkl
    rcases Nat.lt_or_ge k es.length with hlt | hge
    · obtain ⟨ad', hA', hb', hcy⟩ := (hy.keepBut hgr (fun h0 A n c hv ad hA => hne h0 ad (by injection hv with h1; rw [h1]; exact hA))).at_ (j := k) hlt
      subst hA'
      have hcz := hzko.cell (j := o + k) (by rw [HZL.out]; omega)
      have hfr := hzko.frozen (o + k)
      obtain ⟨dz, hdz⟩ : ∃ d, zk.getD (o + k) 0 = d := ⟨_, rfl⟩
      obtain ⟨dy, hdy⟩ : ∃ d, es.getD k 0 = d := ⟨_, rfl⟩
      have bz : dz < 4294967296 := by rw [← hdz]; exact okD_getD hzkd _
      have by_ : dy < 4294967296 := by rw [← hdy]; exact okD_getD hy.okD k
      rw [hdz] at hcz
      rw [hdy] at hcy
      have HDZ := Lib.hid hdz
      have HDY := Lib.hid hdy
      clear hdz hdy
      have m2 := mul_bound2 hd by_
      go_wp2_with fail
      go_quiet (fail)
      go_wp2_with fail
      go_roundw
      case rel =>
        obtain ⟨q, hq⟩ : ∃ q, q = carry + (d * dy + dz) := ⟨_, rfl⟩
        have eq : ((carry : Int) + ((d : Int) * (dy : Int) + (dz : Int))) = (q : Int) := by rw [hq]; simp
        rw [eq, show ((q : Int) % 4294967296) = ((q % 4294967296 : Nat) : Int) by omega, show ((q : Int) / 4294967296) = ((q / 4294967296 : Nat) : Int) by omega]
        have hgz : zs.getD (o + k) 0 = dz := by rw [← HDZ.out]; exact (getD_of_drop HDR.out).symm
        refine ⟨k + 1, _, _, by go_num, rfl, by omega, by omega, by rw [List.length_set]; exact HZL.out, okD_set hzkd _ (by omega), (hzko.drewN _).set (o + k) _, only_set (only_drewN' hgr _) _ _, ?_, ?_, ?_⟩
        · rw [List.take_set_of_le (by omega), HT.out]
        · rw [List.drop_set_of_lt (by omega), ← Nat.add_assoc, ← List.drop_drop, HDR.out, List.drop_drop]
        · rw [← Nat.add_assoc, val_take_set (by rw [HZL.out]; omega), val_take_succ', val_take_succ', HDY.out, hgz, Bs_succ]
          exact addmul_round HV.out _ q rfl hq (Bs_add o k)
      case measure => simp [intOf]; omega
    · obtain rfl : k = es.length := by omega
      go_wp2_with fail
      go_ret
      exact ⟨carry, zk, by simp, hcar, hzko, hzkd, HZL.out, hgr, HT.out, HDR.out, by rw [HV.out, val_take_all (Nat.le_refl _)]⟩
end Go.Proofs.YtkhfadfjkmhpgaaDoor
