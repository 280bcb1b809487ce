/-
  The walk of the law NatLimits.
-/
import Derived.Test.YtacfdcfkfjildaaDoorParseNo
import Derived.Test.YtacfdcfkfjildaaDoorKnown
import Derived.Test.YtacfdcfkfjildaaDoorForms
namespace Go.Proofs.YtacfdcfkfjildaaDoor
open Go.RowKit

theorem make_bytes (n : Nat) (hn : n ≤ 1000000) (w : World) :
    ∃ w', (Instr.makeSlice 59 (.int .i64 (n : Int)) (.int .i64 (n : Int))).run Tryd.prog w = .ok (.slice (some ⟨w.heap.size, 0, none⟩) n n) w' ∧ OwnB w' w.heap.size (List.replicate n 0) ∧ Below w.heap.size w w' ∧ w'.heap.size = w.heap.size + 1 := by
  obtain ⟨i, hi, hz, hs, hby⟩ := info_parts Tryd.info_u8
  have hr := run_make (P := Tryd.prog) w 59 5 i (.int .u8 0) Tryd.underlying59 hi hz .i64 .i64 n n (by omega) (Int.le_refl _) (by rw [hby]; omega) (by omega)
  simp only [Int.toNat_natCast] at hr
  refine ⟨_, hr, ?_, (Below.refl _ _).alloc (Nat.le_refl _) _, by simp⟩
  refine ⟨[], ?_⟩
  rw [heap_alloc_new, List.append_nil]
  rw [show (madeCells (Value.int .u8 0).cells (n * i.size)) = ((List.replicate n 0).map bv).toArray from ?_]
  apply Array.toList_inj.1
  rw [hs, Nat.mul_one]
  show (madeCells #[Value.int .u8 0] n).toList = _
  rw [toList_madeCells_one]
  simp [bv]
theorem convert_own {w : World} {g : Nat} {bs : List Nat} (hown : OwnB w g bs) (hok : OkB bs) (c : Nat) :
    (convert 59 9 (.slice (some ⟨g, 0, none⟩) bs.length c)).run Tryd.prog w = .ok (.string (strB bs)) w := by
  have := run_convert_bytes_back (P := Tryd.prog) w 59 9 5 ⟨g, 0, none⟩ c (bs.map UInt8.ofNat) Tryd.underlying59 Tryd.underlying5 Tryd.underlying9 (fun j hj => by
    have hj' : j < bs.length := by simpa using hj
    rw [addr_add_lit, Nat.zero_add, hown.cell hj', List.getD_eq_getElem?_getD, List.getElem?_eq_getElem hj']
    have hb := hok _ (List.getElem_mem hj')
    have e : (bs.map UInt8.ofNat)[j] = UInt8.ofNat bs[j] := by simp
    rw [e, UInt8.toNat_ofNat_of_lt' (by exact hb)]
    rfl)
  rw [List.length_map] at this
  exact this
theorem decN_zeros (n : Nat) : decN (List.replicate n 48) = 0 := by
  induction n with
  | zero => rfl
  | succ n ih => rw [List.replicate_succ', decN_snoc, ih]

set_option maxRecDepth 100000 in
set_option maxHeartbeats 3200000 in
theorem natlimits_any {m b : Nat} {a0 a1 : Addr} {w : World} (hb : b < 256) (hS : w.cell? ⟨0, 0, none⟩ = some (.iface 172 (.pointer (some a0)))) (hL : w.cell? ⟨1, 0, none⟩ = some (.iface 172 (.pointer (some a1)))) :
    Calls Tryd.prog 8 #[.int .u8 (m : Int), .int .u8 (b : Int)] w fun e w' => e = .returned (.bool true) ∧ Below w.heap.size w w' := by
  obtain ⟨r, hr⟩ : ∃ r, m % 16 = r := ⟨_, rfl⟩
  have hr16 : r < 16 := by omega
  have htm : (m : Int).tmod 16 = (r : Int) := by rw [← hr]; norm_cast
  obtain ⟨p, hp⟩ : ∃ p, 4087 + r = p := ⟨_, rfl⟩
  have hnp : (4088 : Int) + (r : Int) = (p : Int) + 1 := by omega
  have hwn : IntKind.i64.wrap ((p : Int) + 1) = (p : Int) + 1 := IntWalk.i64_in _ (by omega)
  obtain ⟨w1, hmk, hown, hb1, hsz1⟩ := make_bytes (p + 1) (by omega) w
  rw [Int.natCast_add, Int.natCast_one] at hmk
  have HO := Lib.hid hown
  have hlt1 := hown.lt
  have hp1 : p ≤ 4102 := by omega
  have HP := Lib.hid hp
  have blkS := World.block_lt_of_cell? _ _ hS
  have blkL := World.block_lt_of_cell? _ _ hL
  have HS := Lib.hid hS
  have HL := Lib.hid hL
  clear hr hown hsz1 hp hS hL
  go_enter Tryd.func8, Tryd.ntmps8
  go_wp2_with fail
  go_loopw [18] (fun i wr => ∃ (k : Nat) (zs : List Nat), i = .int .i64 k ∧ k ≤ p + 1 ∧ zs.length = p + 1 ∧ OkB zs ∧ OwnB wr w.heap.size zs ∧ Below w.heap.size w wr ∧ zs.take k = List.replicate k 48) (fun i _ => p + 1 - (intOf i).toNat)
  case atStart => exact ⟨0, _, rfl, Nat.zero_le _, by simp, okB_replicate _ (by omega), HO.out, hb1, rfl⟩
  case round =>
    obtain ⟨k, zs, rfl, hk, hzl, hzd, hzo, hbr, ht⟩ := hrel
    have HT := Lib.hid ht
    have HZL := Lib.hid hzl
    clear ht hzl
    rcases Nat.lt_or_ge k (p + 1) with hlt | hge
    · have hcz := hzo.cell (j := k) (by rw [HZL.out]; exact hlt)
      have hfr := hzo.frozen k
      have i1 : (0 : Int) ≤ (k : Int) := by omega
      have i2 : (k : Int) < (p : Int) + 1 := by omega
      go_wp2_with fail
      go_roundw
      case rel =>
        refine ⟨k + 1, zs.set k 48, by go_num, by omega, by rw [List.length_set]; exact HZL.out, okB_set hzd k (by omega), hzo.set k 48, hbr.setCell (p := ⟨w.heap.size, k, none⟩) (Nat.le_refl _) _, ?_⟩
        rw [List.replicate_succ', List.take_succ_eq_append_getElem (by rw [List.length_set, HZL.out]; exact hlt), List.take_set_of_le (Nat.le_refl _), HT.out, List.getElem_set_self]
      case measure => simp [intOf]; omega
    · obtain rfl : k = p + 1 := by omega
      have hall : zs = List.replicate (p + 1) 48 := by
        have h1 := HT.out
        rwa [List.take_of_length_le (by rw [HZL.out]; exact Nat.le_refl _)] at h1
      subst hall
      have hcz := hzo.cell (j := p) (by simp)
      have hfr := hzo.frozen p
      have i1 : (0 : Int) ≤ (p : Int) := by omega
      have i3 : (p : Int) + 1 - 1 = (p : Int) := by omega
      have i2 : (p : Int) < (p : Int) + 1 := by omega
      obtain ⟨fs, hfs⟩ : ∃ fs, List.replicate p 48 ++ [b] = fs := ⟨_, rfl⟩
      have hset : (List.replicate (p + 1) 48).set p b = fs := by
        rw [← hfs, List.replicate_succ', List.set_append]; simp
      have hfl : fs.length = p + 1 := by rw [← hfs]; simp
      have hfo : OkB fs := by rw [← hfs]; exact okB_append.2 ⟨okB_replicate _ (by omega), okB_one hb⟩
      have hown2 : OwnB (wr.setCell ⟨w.heap.size, p, none⟩ (.int .u8 (b : Int))) w.heap.size fs := by rw [← hset]; exact hzo.set p b
      have hcv := convert_own hown2 hfo (p + 1)
      rw [hfl] at hcv
      have hb2 := hbr.setCell (p := ⟨w.heap.size, p, none⟩) (Nat.le_refl _) (.int .u8 (b : Int))
      have HFS := Lib.hid hfs
      have HFL := Lib.hid hfl
      have hS2 := (hb2.cell (p := ⟨0, 0, none⟩) blkS).trans HS.out
      have hL2 := (hb2.cell (p := ⟨1, 0, none⟩) blkL).trans HL.out
      clear hfs hset hfl hown2
      rcases Classical.em (Dig b) with hdg | hdg
      · have hall : ∀ x ∈ fs, Dig x := by
          rw [← HFS.out]
          intro x hx
          rcases List.mem_append.1 hx with h | h
          · rw [List.mem_replicate] at h; rw [h.2]; exact ⟨by omega, by omega⟩
          · rw [List.mem_singleton] at h; rw [h]; exact hdg
        obtain ⟨hd1, hd2⟩ := hdg
        have e1 : ¬ (b : Int) < 48 := by omega
        have e2 : ¬ (57 : Int) < (b : Int) := by omega
        have e3 : ¬ b < 48 := by omega
        have e4 : ¬ 57 < b := by omega
        rcases Nat.lt_or_ge 4096 (p + 1) with h4 | h4
        · have h5 : (4096 : Int) < (p : Int) + 1 := by omega
          have h6 : 4096 < p + 1 := h4
          go_wp2_with fail
          refine (parse_big hfo (by rw [HFL.out]; omega) hall (by rw [HFL.out]; exact h4) hL2).mono ?_
          rintro e w3 ⟨rfl, hb3⟩
          have hb4 := hb2.trans (hb3.mono hb2.size)
          clear hS2 hL2
          go_wp2_with fail
          refine (known_any _).mono ?_
          rintro e w4 ⟨rfl, hb5⟩
          have hb6 := hb4.trans (hb5.mono hb4.size)
          have hL3 := (hb6.cell (p := ⟨1, 0, none⟩) blkL).trans HL.out
          go_wp2_with fail
          refine (is_same a1 _).mono ?_
          rintro e w5 ⟨rfl, rfl⟩
          go_wp2_with fail
          go_ret
          exact ⟨rfl, hb6⟩
        · have h5 : ¬ (4096 : Int) < (p : Int) + 1 := by omega
          have h6 : ¬ 4096 < p + 1 := by omega
          have v1 : IntKind.u8.wrap ((b : Int) - 48) = (b : Int) - 48 := by simp [IntKind.wrap, IntKind.bits, IntKind.signed]; omega
          have v2 : IntKind.u64.wrap ((b : Int) - 48) = (b : Int) - 48 := by simp [IntKind.wrap, IntKind.bits, IntKind.signed]; omega
          obtain ⟨x, hx⟩ : ∃ x, b - 48 = x := ⟨_, rfl⟩
          have hxi : (b : Int) - 48 = (x : Int) := by omega
          have hdec : decN fs = x := by rw [← HFS.out, decN_snoc, decN_zeros, hx]; omega
          have hxb : x < 10 := by omega
          have hpar := parse_yes (w := wr.setCell ⟨w.heap.size, p, none⟩ (.int .u8 (b : Int))) hfo hall (by intro e; have := HFL.out; rw [e] at this; simp at this) (by rw [HFL.out]; exact h4)
          rw [hdec] at hpar
          have HPAR := Lib.hid hpar
          clear hpar hdec hx hall
          go_wp2_with fail
          refine HPAR.out.mono ?_
          rintro e w3 ⟨A, n, c, rfl, hN, hb3⟩
          have hb4 := hb2.trans (hb3.mono hb2.size)
          clear hS2 hL2
          go_wp2_with fail
          refine (known_any _).mono ?_
          rintro e w4 ⟨rfl, hb5⟩
          have hb6 := hb4.trans (hb5.mono hb4.size)
          have hN2 := Num.below hN hb5
          go_wp2_with fail
          refine (word_v x (by omega) _).mono ?_
          rintro e w5 ⟨B, k, d, rfl, hW, hb7⟩
          have hb8 := hb6.trans (hb7.mono hb6.size)
          have hN3 : NV w5 (.slice A n c) x 1 := ⟨Num.below hN2 hb7, by rw [Bs_one]; omega⟩
          go_wp2_with fail
          refine (samelaw_v hN3 hW rfl (by omega)).mono ?_
          rintro e w6 ⟨rfl, hb9⟩
          have hb10 := hb8.trans (hb9.mono hb8.size)
          go_wp2_with fail
          go_ret
          exact ⟨rfl, hb10⟩
      · have hnot : ¬ ((∀ x ∈ fs, Dig x) ∧ fs ≠ []) := fun h => hdg (h.1 b (by rw [← HFS.out]; simp))
        have hcase : (b < 48 ∧ (b : Int) < 48) ∨ (¬ b < 48 ∧ ¬ (b : Int) < 48 ∧ 57 < b ∧ (57 : Int) < (b : Int)) := by
          rcases Nat.lt_or_ge b 48 with h | h
          · exact .inl ⟨h, by omega⟩
          · have : 57 < b := by
              rcases Nat.lt_or_ge 57 b with h2 | h2
              · exact h2
              · exact absurd ⟨h, h2⟩ hdg
            exact .inr ⟨by omega, by omega, this, by omega⟩
        have HNOT := Lib.hid hnot
        clear hdg hnot
        rcases hcase with ⟨e1, e2⟩ | ⟨e1, e2, e3, e4⟩
        all_goals
          go_wp2_with fail
          refine (parse_no hfo (by rw [HFL.out]; omega) HNOT.out hS2).mono ?_
          rintro e w3 ⟨rfl, hb3⟩
          have hb4 := hb2.trans (hb3.mono hb2.size)
          clear hS2 hL2
          go_wp2_with fail
          refine (known_any _).mono ?_
          rintro e w4 ⟨rfl, hb5⟩
          have hb6 := hb4.trans (hb5.mono hb4.size)
          have hS3 := (hb6.cell (p := ⟨0, 0, none⟩) blkS).trans HS.out
          go_wp2_with fail
          refine (is_same a0 _).mono ?_
          rintro e w5 ⟨rfl, rfl⟩
          go_wp2_with fail
          go_ret
          exact ⟨rfl, hb6⟩
end Go.Proofs.YtacfdcfkfjildaaDoor
