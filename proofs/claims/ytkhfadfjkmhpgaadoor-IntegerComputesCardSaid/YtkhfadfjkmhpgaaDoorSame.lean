/-
  The contract of SameN: whether two lists of digits are equal.
-/
import Derived.Test.YtkhfadfjkmhpgaaDoorTrim
namespace Go.Proofs.YtkhfadfjkmhpgaaDoor
open Go.RowKit



theorem take_succ_eq {ds es : List Nat} {k : Nat} (h1 : k < ds.length) (h2 : k < es.length) (h : ds.take k = es.take k) (hd : ds.getD k 0 = es.getD k 0) : ds.take (k + 1) = es.take (k + 1) := by
  rw [List.take_succ_eq_append_getElem h1, List.take_succ_eq_append_getElem h2, h]
  rw [List.getD_eq_getElem?_getD, List.getD_eq_getElem?_getD, List.getElem?_eq_getElem h1, List.getElem?_eq_getElem h2] at hd
  simp only [Option.getD_some] at hd
  rw [hd]

set_option maxRecDepth 100000 in
set_option maxHeartbeats 800000 in
theorem same_any {A A' : Option Addr} {n n' c c' : Nat} {ds es : List Nat} {w : World} (hx : Raw w (.slice A n c) ds) (hy : Raw w (.slice A' n' c') es) :
    Calls Tryd.prog 11 #[.slice A n c, .slice A' n' c'] w fun e w' => e = .returned (.bool (decide (ds = es))) ∧ ∃ j, w' = w.drewN j := by
  obtain ⟨hn, hc⟩ := hx.cap
  obtain ⟨hn', hc'⟩ := hy.cap
  have hl := hx.len
  have hl' := hy.len
  subst hn
  subst hn'
  by_cases hlen : ds.length = es.length
  · have HL := Lib.hid hlen
    have hlB : ((ds.length : Int) != (es.length : Int)) = false := by simp [hlen]
    clear hlen
    go_enter Tryd.func11, Tryd.ntmps11
    go_wp2
    go_loopw [13] (fun i wr => ∃ k j : Nat, k ≤ ds.length ∧ i = .int .i64 k ∧ ds.take k = es.take k ∧ wr = w.drewN j) (fun i _ => ds.length - (intOf i).toNat)
    case atStart => exact ⟨0, 0, Nat.zero_le _, rfl, by simp, rfl⟩
    case round =>
      obtain ⟨k, j, hk, rfl, ht, rfl⟩ := hrel
      have HT := Lib.hid ht
      clear ht
      rcases Nat.lt_or_ge k ds.length with hlt | hge
      · obtain ⟨ad, hA, hb, hcx⟩ := hx.at_ (j := k) hlt
        obtain ⟨ad', hA', hb', hcy⟩ := hy.at_ (j := k) (by have := HL.out; omega)
        subst hA
        subst hA'
        obtain ⟨dx, hdx⟩ : ∃ d, ds.getD k 0 = d := ⟨_, rfl⟩
        obtain ⟨dy, hdy⟩ : ∃ d, es.getD k 0 = d := ⟨_, rfl⟩
        rw [hdx] at hcx
        rw [hdy] at hcy
        have HDX := Lib.hid hdx
        have HDY := Lib.hid hdy
        clear hdx hdy
        have hlt' : k < es.length := by have := HL.out; omega
        by_cases he : dx = dy
        · subst he
          go_wp2_with fail
          go_quiet (fail)
          go_wp2_with fail
          go_roundw
          case rel => exact ⟨k + 1, _, by omega, by go_num, take_succ_eq hlt hlt' HT.out (by rw [HDX.out, HDY.out]), rfl⟩
          case measure => simp [intOf]; omega
        · have hne : ((dx : Int) != (dy : Int)) = true := by simp; omega
          have HE := Lib.hid he
          clear he
          go_wp2_with fail
          go_quiet (fail)
          go_wp2_with fail
          go_ret
          refine ⟨?_, _, World.drewN_drewN _ _ _⟩
          have : ds ≠ es := fun h => HE.out (by rw [← HDX.out, ← HDY.out, h])
          simp [this]
      · obtain rfl : k = ds.length := by omega
        go_wp2_with fail
        go_ret
        refine ⟨?_, _, rfl⟩
        have h := HT.out
        rw [List.take_of_length_le (Nat.le_refl _), List.take_of_length_le (by have := HL.out; omega)] at h
        simp [h]
  · have hlB : ((ds.length : Int) != (es.length : Int)) = true := by simp; omega
    have HL := Lib.hid hlen
    clear hlen
    go_enter Tryd.func11, Tryd.ntmps11
    go_wp2
    go_ret
    refine ⟨?_, 0, rfl⟩
    have : ds ≠ es := fun h => HL.out (by rw [h])
    simp [this]
end Go.Proofs.YtkhfadfjkmhpgaaDoor
