/-
  The contracts of the reference's ReadN and Read.
-/
import Derived.Test.YtancgkmkbgkncaaGreatDoorK10
import Derived.Test.YtancgkmkbgkncaaGreatDoorK5
import Derived.Test.YtancgkmkbgkncaaGreatDoorK3
import Derived.Test.YtancgkmkbgkncaaGreatDoorB1
namespace Go.Proofs.YtancgkmkbgkncaaGreatDoor
open Go.RowKit

set_option maxRecDepth 100000 in
set_option maxHeartbeats 6400000 in
theorem read_yes {bs : List Nat} {w : World} (hb : OkB bs) (hd : ∀ b ∈ bs, Dig b) (hne : bs ≠ []) (hl : bs.length ≤ 4096) :
    Calls Tryz.prog 59 #[.string (strB bs)] w fun e w' => ∃ A n c, e = .returned (.tuple #[.slice A n c, .bool true]) ∧ Num w' (.slice A n c) (decN bs) ∧ Below w.heap.size w w' := by
  have hsz := strB_size bs
  have hat := fun k (h : k < (strB bs).size) => strB_at hb h
  have hemp : (!(strB bs).toList.isEmpty) = true := by
    rw [strB_list]
    cases bs with
    | nil => exact absurd rfl hne
    | cons b bs => rfl
  have HE := Lib.hid hemp
  have HAT := Lib.hid hat
  have HD := Lib.hid hd
  have HL := Lib.hid hl
  clear hemp hat hne
  generalize hsb : strB bs = s at *
  clear hsb
  go_enter Tryz.func59, Tryz.ntmps59
  go_wp2_with fail
  go_loopw [4, 5] (fun av iv wr => ∃ (k : Nat) (A : Option Addr) (n c : Nat), iv = .int .i64 k ∧ av = .slice A n c ∧ k ≤ bs.length ∧ Num wr (.slice A n c) (decN (bs.take k)) ∧ Below w.heap.size w wr) (fun _ iv _ => bs.length - (intOf iv).toNat)
  case atStart => exact ⟨0, none, 0, 0, rfl, rfl, Nat.zero_le _, num_zero _ _, Below.refl _ _⟩
  case round =>
    obtain ⟨k, A, n, c, rfl, rfl, hk, hN, hbr⟩ := hrel
    rcases Nat.lt_or_ge k bs.length with hlt | hge
    · have hlt2 : (k : Int) < (bs.length : Int) := by omega
      have hk0 : (0 : Int) ≤ (k : Int) := by omega
      obtain ⟨d, hdd⟩ : ∃ d, bs.getD k 0 = d := ⟨_, rfl⟩
      have hdg : Dig d := by
        rw [← hdd, List.getD_eq_getElem?_getD, List.getElem?_eq_getElem hlt]; exact HD.out _ (List.getElem_mem hlt)
      have hix : ∀ h : k < s.size, (s[k]'h).toNat = d := fun h => by rw [HAT.out k h]; exact hdd
      obtain ⟨h1, h2⟩ := hdg
      have h3 : ¬ (d : Int) < 48 := by omega
      have h4 : ¬ (57 : Int) < (d : Int) := by omega
      have h5 : ¬ d < 48 := by omega
      have h6 : ¬ 57 < d := by omega
      obtain ⟨x, hx⟩ : ∃ x, d - 48 = x := ⟨_, rfl⟩
      have hxi : (d : Int) - 48 = (x : Int) := by omega
      have hx9 : x < 18446744073709551616 := by omega
      have v3 : IntKind.u8.wrap (x : Int) = (x : Int) := by simp [IntKind.wrap, IntKind.bits, IntKind.signed]; omega
      have v4 : IntKind.u64.wrap (x : Int) = (x : Int) := by simp [IntKind.wrap, IntKind.bits, IntKind.signed]; omega
      have hnx : decN (bs.take k) * 10 + x = decN (bs.take (k + 1)) := by rw [decN_take_succ hlt, hdd, hx]
      have HNX := Lib.hid hnx
      have hnk : n ≤ 4096 := by rw [(Raw.cap hN).1]; exact Nat.le_trans (dec_len HD.out k) (by have := HL.out; omega)
      have hPL : ∀ (W : World) (B : Option Addr) (m q : Nat), Num W (.slice B m q) (decN (bs.take k) * 10) → m ≤ 5000 := by
        intro W B m q h
        rw [(Raw.cap h).1]
        refine digs_length_le ?_
        have h1 : decN (bs.take k) < Bs 4096 := lt_of_digs_length (Nat.le_trans (dec_len HD.out k) (by have := HL.out; omega))
        have h2 : Bs 4097 ≤ Bs 5000 := Bs_mono (by omega)
        rw [Bs_succ] at h2
        omega
      have HHN := Lib.hid hN
      clear hdd hx hnx hN hd
      go_wp2_with fail
      refine wp_region_noPanic ?_
      refine wp_region_held_drew (S := fun _ => True) (by kernel_rfl) trivial (fun hHeld => ?_)
      have hG : Below wr.heap.size wr wr.drew := below_drewN (Below.refl _ wr) 1
      generalize wr.drew = v at hG hHeld ⊢
      have sG := hG.size
      refine wpAnyH_take (i := 0) (v := ?_) rfl (by kernel_rfl) (by kernel_rfl) (by kernel_rfl) (fun _ _ _ h => h) (Or.inl ⟨by rfl, ?_⟩) (by assumption) ?_
      rotate_left
      · (intro w hSw; go_simp; (try with_reducible rfl))
      (try simp only [List.getElem_toArray, List.getElem_cons_zero, Act.put, List.setIfInBounds_toArray, List.set_cons_zero, List.set_cons_succ])
      refine wpAnyH_take (i := 3) (v := ?_) rfl (by kernel_rfl) (by kernel_rfl) (by kernel_rfl) (fun _ _ _ h => h) (Or.inl ⟨by rfl, ?_⟩) (by assumption) ?_
      rotate_left
      · (intro w hSw; go_simp; (try with_reducible rfl))
      (try simp only [List.getElem_toArray, List.getElem_cons_succ, List.getElem_cons_zero, Act.put, List.setIfInBounds_toArray, List.set_cons_zero, List.set_cons_succ])
      refine wpAnyH_take (i := 4) (v := ?_) rfl (by kernel_rfl) (by kernel_rfl) (by kernel_rfl) (fun _ _ _ h => h) (Or.inl ⟨by rfl, ?_⟩) (by assumption) ?_
      rotate_left
      · (intro w hSw; go_simp; (try with_reducible rfl))
      (try simp only [List.getElem_toArray, List.getElem_cons_succ, List.getElem_cons_zero, Act.put, List.setIfInBounds_toArray, List.set_cons_zero, List.set_cons_succ])
      refine wpAnyH_take (i := 5) (v := ?_) rfl (by kernel_rfl) (by kernel_rfl) (by kernel_rfl) (fun _ _ _ h => h) (Or.inl ⟨by rfl, ?_⟩) (by assumption) ?_
      rotate_left
      · (intro w hSw; go_simp; (try with_reducible rfl))
      (try simp only [List.getElem_toArray, List.getElem_cons_succ, List.getElem_cons_zero, Act.put, List.setIfInBounds_toArray, List.set_cons_zero, List.set_cons_succ])
      refine wpAnyH_take (i := 6) (v := ?_) rfl (by kernel_rfl) (by kernel_rfl) (by kernel_rfl) (fun _ _ _ h => h) (Or.inl ⟨by rfl, ?_⟩) (by assumption) ?_
      rotate_left
      · (intro w hSw; go_simp; (try with_reducible rfl))
      (try simp only [List.getElem_toArray, List.getElem_cons_succ, List.getElem_cons_zero, Act.put, List.setIfInBounds_toArray, List.set_cons_zero, List.set_cons_succ])
      refine wpAnyH_take (i := 7) (v := ?_) rfl (by kernel_rfl) (by kernel_rfl) (by kernel_rfl) (fun _ _ _ h => h) (Or.inl ⟨by rfl, ?_⟩) (by assumption) ?_
      rotate_left
      · (intro w hSw; go_simp; (try with_reducible rfl))
      (try simp only [List.getElem_toArray, List.getElem_cons_succ, List.getElem_cons_zero, Act.put, List.setIfInBounds_toArray, List.set_cons_zero, List.set_cons_succ])
      refine wpAnyH_ready (rs := [1]) (by kernel_rfl) (by simp) (AllReadyH.cons (o := _) rfl (fun K hK => ?_) AllReadyH.nil)
      go_simp
      obtain ⟨v1, hV, x1, hb9, sz1⟩ := boxes1 v #[.int .u32 10] 64
      have hten : Num v1 (.slice (some ⟨v.heap.size, 0, none⟩) 1 1) 10 := by rw [← hV]; unfold Num; rw [digs_one_digit (by omega) (by omega)]; exact raw_lit v _ _ 1 _ rfl (okD_one (by omega)) rfl (by decide) rfl
      rw [hV]
      clear hV
      replace hG := hG.trans (hb9.mono sG)
      replace sG := hG.size
      clear hb9
      refine hK.out _ _ ?_ (fun hHeld => ?_)
      · trivial
      clear hK K
      (try simp only [List.getElem_toArray, List.getElem_cons_succ, List.getElem_cons_zero, Act.put, List.setIfInBounds_toArray, List.set_cons_zero, List.set_cons_succ])
      refine wpAnyH_ready (rs := [2]) (by kernel_rfl) (by simp) (AllReadyH.cons (o := _) rfl (fun K hK => ?_) AllReadyH.nil)
      go_simp
      go_at_call 22
      refine (nprod_is (Num.below HHN.out hG) hten (by omega)).mono ?_
      rintro e v2 ⟨B2, k2, d2, rfl, hP, hb9⟩
      replace hG := hG.trans (hb9.mono sG)
      replace sG := hG.size
      clear hb9
      go_wp2_with fail
      refine hK.out _ _ ?_ (fun hHeld => ?_)
      · trivial
      clear hK K
      (try simp only [List.getElem_toArray, List.getElem_cons_succ, List.getElem_cons_zero, Act.put, List.setIfInBounds_toArray, List.set_cons_zero, List.set_cons_succ])
      refine wpAnyH_ready (rs := [8]) (by kernel_rfl) (by simp) (AllReadyH.cons (o := _) rfl (fun K hK => ?_) AllReadyH.nil)
      go_simp
      go_at_call 43
      refine (word_any x hx9 _).mono ?_
      rintro e v3 ⟨B3, k3, d3, rfl, hW, hb9⟩
      replace hP := Num.below hP hb9
      replace hG := hG.trans (hb9.mono sG)
      replace sG := hG.size
      clear hb9
      go_wp2_with fail
      refine hK.out _ _ ?_ (fun hHeld => ?_)
      · trivial
      clear hK K
      (try simp only [List.getElem_toArray, List.getElem_cons_succ, List.getElem_cons_zero, Act.put, List.setIfInBounds_toArray, List.set_cons_zero, List.set_cons_succ])
      refine wpAnyH_ready (rs := [9]) (by kernel_rfl) (by simp) (AllReadyH.cons (o := _) rfl (fun K hK => ?_) AllReadyH.nil)
      go_simp
      go_at_call 94
      refine (nsum_is hP hW (Nat.lt_of_le_of_lt (hPL _ _ _ _ hP) (by omega)) (by have h := digs_length_le (x := x) (k := 2) (by rw [Bs_two]; exact hx9); rw [← (Raw.cap hW).1] at h; omega)).mono ?_
      rintro e v4 ⟨B4, k4, d4, rfl, hS, hb9⟩
      replace hG := hG.trans (hb9.mono sG)
      clear hb9
      go_wp2_with fail
      refine hK.out _ _ ?_ (fun hHeld => ?_)
      · trivial
      clear hK K
      (try simp only [List.getElem_toArray, List.getElem_cons_succ, List.getElem_cons_zero, Act.put, List.setIfInBounds_toArray, List.set_cons_zero, List.set_cons_succ])
      refine wpAnyH_take (i := 10) (v := ?_) rfl (by kernel_rfl) (by kernel_rfl) (by kernel_rfl) (fun _ _ _ h => h) (Or.inl ⟨by rfl, ?_⟩) (by assumption) ?_
      rotate_left
      · (intro w hSw; go_simp; (try with_reducible rfl))
      (try simp only [List.getElem_toArray, List.getElem_cons_succ, List.getElem_cons_zero, Act.put, List.setIfInBounds_toArray, List.set_cons_zero, List.set_cons_succ])
      refine wpAnyH_done (by kernel_rfl) ?_ _
      refine NoPanic.normal ?_
      have hbf := hbr.trans (hG.mono hbr.size)
      rw [HNX.out] at hS
      go_wp2_with fail
      go_roundw
      case rel => exact ⟨k + 1, B4, k4, d4, by go_num, rfl, by omega, hS, hbf⟩
      case measure => simp [intOf]; omega
    · obtain rfl : k = bs.length := by omega
      rw [List.take_length] at hN
      have HHN := Lib.hid hN
      clear hN hd
      go_wp2_with fail
      go_ret2
      refine ⟨A, n, c, ?_, HHN.out, hbr⟩
      rw [← HE.out]; rfl
section
variable {bs : List Nat} {w : World}
set_option maxRecDepth 100000 in
theorem readn_yes (hb : OkB bs) (hd : ∀ b ∈ bs, Dig b) (hne : bs ≠ []) (hl : bs.length ≤ 4096) :
    Calls Tryz.prog 33 #[.string (strB bs)] w fun e w' => ∃ A n c, e = .returned (.tuple #[.slice A n c, .int .i64 0]) ∧ Num w' (.slice A n c) (decN bs) ∧ Below w.heap.size w w' := by
  have hsz := strB_size bs
  have hat := fun k (h : k < (strB bs).size) => strB_at hb h
  have hemp : (strB bs).toList.isEmpty = false := by
    rw [strB_list]
    cases bs with
    | nil => exact absurd rfl hne
    | cons b bs => rfl
  have HR := Lib.hid (read_yes (w := w) hb hd hne hl)
  have hpos : 0 < bs.length := List.length_pos_iff.2 hne
  have h40 : ¬ (4096 : Int) < (bs.length : Int) := by omega
  have HAT := Lib.hid hat
  have HD := Lib.hid hd
  have HE := Lib.hid hemp
  clear hat hd hne hemp
  generalize hsb : strB bs = s at *
  clear hsb
  go_enter Tryz.func33, Tryz.ntmps33
  go_wp2_with fail
  go_loop [4] (fun i => ∃ k : Nat, i = .int .i64 k ∧ k ≤ bs.length) (fun i => bs.length - (intOf i).toNat)
  case atStart => exact ⟨0, rfl, Nat.zero_le _⟩
  case round =>
    obtain ⟨k, rfl, hk⟩ := hrel
    rcases Nat.lt_or_ge k bs.length with hlt | hge
    · have hlt2 : (k : Int) < (bs.length : Int) := by omega
      obtain ⟨d, hdd⟩ : ∃ d, bs.getD k 0 = d := ⟨_, rfl⟩
      have hdg : Dig d := by
        rw [← hdd, List.getD_eq_getElem?_getD, List.getElem?_eq_getElem hlt]; exact HD.out _ (List.getElem_mem hlt)
      have hix : ∀ h : k < s.size, (s[k]'h).toNat = d := fun h => by rw [HAT.out k h]; exact hdd
      obtain ⟨h1, h2⟩ := hdg
      have h3 : ¬ (d : Int) < 48 := by omega
      have h4 : ¬ (57 : Int) < (d : Int) := by omega
      have h5 : ¬ d < 48 := by omega
      have h6 : ¬ 57 < d := by omega
      clear hdd
      go_wp2_with fail
      go_round
      case rel => exact ⟨k + 1, by go_num, by omega⟩
      case measure => simp [intOf]; omega
    · obtain rfl : k = bs.length := by omega
      have hemp := HE.out
      go_wp2_with fail
      refine HR.out.mono ?_
      rintro e w2 ⟨A, n, c, rfl, hN, hb2⟩
      go_wp2_with fail
      go_ret2
      exact ⟨A, n, c, rfl, hN, hb2⟩
set_option maxRecDepth 100000 in
theorem readn_bad (hb : OkB bs) (hl : bs.length ≤ 1000000000) {j : Nat} (hj : j < bs.length) (hbad : ¬ Dig (bs.getD j 0)) (hgood : ∀ i, i < j → Dig (bs.getD i 0)) :
    Calls Tryz.prog 33 #[.string (strB bs)] w fun e w' => e = .returned (.tuple #[.slice none 0 0, .int .i64 1]) ∧ w = w' := by
  have hsz := strB_size bs
  have hat := fun k (h : k < (strB bs).size) => strB_at hb h
  have HAT := Lib.hid hat
  have HD := Lib.hid hgood
  have HB := Lib.hid hbad
  clear hat hgood hbad
  generalize hsb : strB bs = s at *
  clear hsb
  go_enter Tryz.func33, Tryz.ntmps33
  go_wp2_with fail
  go_loop [4] (fun i => ∃ k : Nat, i = .int .i64 k ∧ k ≤ j) (fun i => bs.length - (intOf i).toNat)
  case atStart => exact ⟨0, rfl, Nat.zero_le _⟩
  case round =>
    obtain ⟨k, rfl, hk⟩ := hrel
    have hlt : k < bs.length := by omega
    have hlt2 : (k : Int) < (bs.length : Int) := by omega
    obtain ⟨d, hdd⟩ : ∃ d, bs.getD k 0 = d := ⟨_, rfl⟩
    have hix : ∀ h : k < s.size, (s[k]'h).toNat = d := fun h => by rw [HAT.out k h]; exact hdd
    rcases Nat.lt_or_ge k j with hkj | hkj
    · obtain ⟨h1, h2⟩ : Dig d := by rw [← hdd]; exact HD.out k hkj
      have h3 : ¬ (d : Int) < 48 := by omega
      have h4 : ¬ (57 : Int) < (d : Int) := by omega
      have h5 : ¬ d < 48 := by omega
      have h6 : ¬ 57 < d := by omega
      clear hdd
      go_wp2_with fail
      go_round
      case rel => exact ⟨k + 1, by go_num, by omega⟩
      case measure => simp [intOf]; omega
    · obtain rfl : k = j := by omega
      have hnd : ¬ Dig d := by rw [← hdd]; exact HB.out
      clear hdd
      rcases Nat.lt_or_ge d 48 with h5 | h5
      · have h3 : (d : Int) < 48 := by omega
        go_wp2_with fail
        go_ret2
        exact ⟨rfl, rfl⟩
      · have h6 : 57 < d := by
          rcases Nat.lt_or_ge 57 d with h | h
          · exact h
          · exact absurd ⟨h5, h⟩ hnd
        have h3 : ¬ (d : Int) < 48 := by omega
        have h4 : (57 : Int) < (d : Int) := by omega
        have h7 : ¬ d < 48 := by omega
        go_wp2_with fail
        go_ret2
        exact ⟨rfl, rfl⟩
set_option maxRecDepth 100000 in
theorem readn_none : Calls Tryz.prog 33 #[.string (strB [])] w fun e w' => e = .returned (.tuple #[.slice none 0 0, .int .i64 1]) ∧ w = w' := by
  have hsz := strB_size []
  have hs : strB [] = ⟨#[]⟩ := rfl
  rw [hs] at hsz ⊢
  go_enter Tryz.func33, Tryz.ntmps33
  go_wp2_with fail
  refine wp_loop_rounds 1 ?_
  rw [rounds_succ]
  go_wp2_with fail
  go_ret2
  exact ⟨rfl, rfl⟩
theorem readn_no (hb : OkB bs) (hl : bs.length ≤ 1000000000) (h : ¬ ((∀ b ∈ bs, Dig b) ∧ bs ≠ [])) :
    Calls Tryz.prog 33 #[.string (strB bs)] w fun e w' => e = .returned (.tuple #[.slice none 0 0, .int .i64 1]) ∧ w = w' := by
  rcases Classical.em (bs = []) with rfl | hne
  · exact readn_none
  · obtain ⟨j, h1, h2, h3⟩ := first_bad (bs := bs) (fun h4 => h ⟨h4, hne⟩)
    exact readn_bad hb hl h1 h2 h3
end
end Go.Proofs.YtancgkmkbgkncaaGreatDoor
