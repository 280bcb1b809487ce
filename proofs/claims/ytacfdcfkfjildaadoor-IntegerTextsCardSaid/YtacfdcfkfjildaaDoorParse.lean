/-
  The contract of Parse.
-/
import Derived.Test.YtacfdcfkfjildaaDoorOnly
import Derived.Test.YtacfdcfkfjildaaDoorScale
import Derived.Laws.MakeOwn
namespace Go.Proofs.YtacfdcfkfjildaaDoor
open Go.RowKit

/-- The value of decimal digits, the most significant first. -/
def decN (bs : List Nat) : Nat := bs.foldl (fun a b => a * 10 + (b - 48)) 0
theorem decN_snoc (bs : List Nat) (b : Nat) : decN (bs ++ [b]) = decN bs * 10 + (b - 48) := by simp [decN]
theorem decF (bs : List Nat) (a : Nat) : bs.foldl (fun a b => a * 10 + (b - 48)) a = a * 10 ^ bs.length + decN bs := by
  unfold decN
  induction bs generalizing a with
  | nil => simp
  | cons b bs ih =>
    rw [List.foldl_cons, ih, List.foldl_cons, ih (0 * 10 + (b - 48)), List.length_cons, Nat.pow_succ]
    grind
theorem decN_append (cs bs : List Nat) : decN (cs ++ bs) = decN cs * 10 ^ bs.length + decN bs := by
  show (cs ++ bs).foldl (fun a b => a * 10 + (b - 48)) 0 = _
  rw [List.foldl_append, decF]
  rfl
theorem decN_take_succ {bs : List Nat} {i : Nat} (h : i < bs.length) : decN (bs.take (i + 1)) = decN (bs.take i) * 10 + (bs.getD i 0 - 48) := by
  rw [List.take_succ_eq_append_getElem h, decN_snoc, List.getD_eq_getElem?_getD, List.getElem?_eq_getElem h]
  rfl
theorem decN_lt {bs : List Nat} (h : ∀ b ∈ bs, Dig b) : decN bs < 10 ^ bs.length := by
  induction bs with
  | nil => simp [decN]
  | cons b bs ih =>
    have h1 := ih (fun x hx => h x (List.mem_cons_of_mem _ hx))
    obtain ⟨h2, h3⟩ := h b (List.mem_cons_self ..)
    have h4 : decN (b :: bs) = (0 * 10 + (b - 48)) * 10 ^ bs.length + decN bs := decF bs _
    rw [h4, List.length_cons, Nat.pow_succ]
    have h5 : (0 * 10 + (b - 48)) * 10 ^ bs.length ≤ 9 * 10 ^ bs.length := Nat.mul_le_mul_right _ (by omega)
    omega
theorem dec_len {bs : List Nat} (h : ∀ b ∈ bs, Dig b) (k : Nat) : (digs (decN (bs.take k))).length ≤ k := by
  refine digs_length_le (Nat.lt_of_lt_of_le (decN_lt (fun b hb => h b (List.mem_of_mem_take hb))) ?_)
  refine Nat.le_trans (Nat.pow_le_pow_right (by omega) (List.length_take_le k bs)) ?_
  exact Nat.pow_le_pow_left (by omega) k
theorem strB_extract (l : List Nat) (n : Nat) : (strB l).extract n l.length = strB (l.drop n) := by
  apply ByteArray.ext
  apply Array.toList_inj.1
  rw [Lib.extract_data]
  simp [strB, List.take_of_length_le]
def strLen : Value → Nat
  | .string s => s.size
  | _ => 0
theorem make_cap (m : Nat) (hm : m ≤ 1000000) (w : World) :
    ∃ w', (Instr.makeSlice 23 (.int .i64 0) (.int .i64 (m : Int))).run Tryd.prog w = .ok (.slice (some ⟨w.heap.size, 0, none⟩) 0 m) w' ∧ Grow w' w.heap.size (.slice (some ⟨w.heap.size, 0, none⟩) 0 m) (digs 0) ∧ Below w.heap.size w w' := by
  obtain ⟨i, hi, hz, hs, hby⟩ := info_parts Tryd.info_u32
  have hr := run_make (P := Tryd.prog) w 23 103 i (.int .u32 0) Tryd.underlying23 hi hz .i64 .i64 0 m (by omega) (by omega) (by rw [hby]; omega) (by omega)
  simp only [Int.toNat_natCast, Int.toNat_zero] at hr
  obtain ⟨w2, hr2, ho, _⟩ := run_makeSlice_owned (P := Tryd.prog) w w.heap.size 23 103 i (.int .u32 0) 1 Tryd.underlying23 hi hz hs .i64 .i64 m (by omega) (by rw [hby]; omega) (by unfold maxLen; omega) (Nat.le_refl _)
  rw [hr] at hr2
  injection hr2 with _ hw
  subst hw
  refine ⟨_, hr, ⟨by rw [digs_zero]; exact okD_nil, by rw [digs_zero]; simpa using ho⟩, (Below.refl _ _).alloc (Nat.le_refl _) _⟩

set_option maxRecDepth 100000 in
set_option maxHeartbeats 6400000 in
theorem parse_yes {bs : List Nat} {w : World} (hb : OkB bs) (hd : ∀ b ∈ bs, Dig b) (hne : bs ≠ []) (hl : bs.length ≤ 4096) :
    Calls Tryd.prog 37 #[.string (strB bs)] w fun e w' => ∃ A n c, e = .returned (.tuple #[.slice A n c, .nilIface]) ∧ Num w' (.slice A n c) (decN bs) ∧ Below w.heap.size w w' := by
  have hon := only_yes (w := w) hb (by omega) hd hne
  have hsz0 := strB_size bs
  have hpos := List.length_pos_iff.2 hne
  have i0 : ¬ (4096 : Int) < (bs.length : Int) := by omega
  have i0' : ¬ 4096 < bs.length := by omega
  have HON := Lib.hid hon
  obtain ⟨m, hm⟩ : ∃ m, bs.length / 9 + 1 = m := ⟨_, rfl⟩
  have hmi : (bs.length : Int) / 9 + 1 = (m : Int) := by omega
  obtain ⟨w1, hmk, hg0, hb0⟩ := make_cap m (by omega) w
  have HG0 := Lib.hid hg0
  have HL := Lib.hid hl
  clear hon hne hm hg0
  go_enter Tryd.func37, Tryd.ntmps37
  go_wp2_with fail
  refine HON.out.mono ?_
  rintro e w' ⟨rfl, rfl⟩
  go_wp2_with fail
  go_loopw [0, 4] (fun sv av wr => ∃ (k : Nat) (A : Option Addr) (n c : Nat), sv = .string (strB (bs.drop k)) ∧ k ≤ bs.length ∧ av = .slice A n c ∧ Grow wr w.heap.size (.slice A n c) (digs (decN (bs.take k))) ∧ Below w.heap.size w wr) (fun sv _ _ => strLen sv)
  case atStart => exact ⟨0, _, _, _, by rw [List.drop_zero], Nat.zero_le _, rfl, HG0.out, hb0⟩
  case round =>
    obtain ⟨k, A, n, c, rfl, hk, rfl, hgr, hbr⟩ := hrel
    have HG := Lib.hid hgr
    have hsz := strB_size (bs.drop k)
    rw [List.length_drop] at hsz
    rcases Nat.lt_or_ge k bs.length with hlt | hge
    · obtain ⟨r, hr⟩ : ∃ r, bs.length - k = r := ⟨_, rfl⟩
      rw [hr] at hsz
      have hr0 : (0 : Int) < (r : Int) := by omega
      have hr0' : 0 < r := by omega
      have hrl : r ≤ 4096 := by have := HL.out; omega
      obtain ⟨n9, hn9⟩ : ∃ q, min r 9 = q := ⟨_, rfl⟩
      have hn9a : n9 ≤ 9 := by omega
      have hn9b : n9 ≤ r := by omega
      have hn90 : 0 < n9 := by omega
      have hmin : ∀ W : World, (Builtin.min_ #[3, 3] 3 #[.int .i64 (r : Int), .int .i64 9]).run Tryd.prog W = .ok (.int .i64 (n9 : Int)) W := fun W => by
        rw [run_min_int2]; congr 2; split <;> omega
      have hat := fun i (h : i < (strB (bs.drop k)).size) => strB_at (okB_drop hb k) h
      have HAT := Lib.hid hat
      have hex : (strB (bs.drop k)).extract n9 r = strB (bs.drop (k + n9)) := by
        have h1 := strB_extract (bs.drop k) n9
        rw [List.length_drop, hr, List.drop_drop] at h1
        exact h1
      obtain ⟨s, hs⟩ : ∃ s, strB (bs.drop k) = s := ⟨_, rfl⟩
      obtain ⟨s2, hs2⟩ : ∃ s, strB (bs.drop (k + n9)) = s := ⟨_, rfl⟩
      rw [hs, hs2] at hex
      rw [hs] at hsz
      have HS := Lib.hid hs
      have HS2 := Lib.hid hs2
      rw [hs]
      have HR := Lib.hid hr
      clear hat hr hs hs2 hn9
      have i9 : (0 : Int) ≤ (n9 : Int) := by omega
      have i10 : (n9 : Int) ≤ (r : Int) := by omega
      have HN9 := Lib.hid hn9a
      go_wp2_with fail
      go_loop [6, 7, 29] (fun sc gp iv => ∃ (i p q : Nat), iv = .int .i64 i ∧ sc = .int .u64 p ∧ gp = .int .u64 q ∧ i ≤ n9 ∧ p = 10 ^ i ∧ q = decN ((bs.drop k).take i)) (fun _ _ iv => n9 - (intOf iv).toNat)
      case atStart => exact ⟨0, 1, 0, rfl, rfl, rfl, Nat.zero_le _, rfl, rfl⟩
      case round =>
        obtain ⟨i, p, q, rfl, rfl, rfl, hi, hp, hq⟩ := hrel
        have hlen : ((bs.drop k).take i).length = i := by rw [List.length_take, List.length_drop, HR.out]; omega
        have hqb : q < p := by
          rw [hp, hq]
          have h1 := decN_lt (bs := (bs.drop k).take i) (fun b h => hd b (List.mem_of_mem_drop (List.mem_of_mem_take h)))
          rwa [hlen] at h1
        have hp0 : 0 < p := by omega
        have hp9 : p ≤ 1000000000 := by
          rw [hp]
          exact Nat.le_trans (Nat.pow_le_pow_right (by omega) (show i ≤ 9 by omega)) (by decide)
        have HP := Lib.hid hp
        have HQ := Lib.hid hq
        rcases Nat.lt_or_ge i n9 with hin | hin
        · have hp8 : p ≤ 100000000 := by
            rw [hp]
            exact Nat.le_trans (Nat.pow_le_pow_right (by omega) (show i ≤ 8 by omega)) (by decide)
          obtain ⟨d, hdd⟩ : ∃ d, (bs.drop k).getD i 0 = d := ⟨_, rfl⟩
          have hdi : i < (bs.drop k).length := by rw [List.length_drop, HR.out]; omega
          have hdg : Dig d := by
            rw [← hdd, List.getD_eq_getElem?_getD, List.getElem?_eq_getElem hdi]
            exact hd _ (List.mem_of_mem_drop (List.getElem_mem hdi))
          obtain ⟨hd1, hd2⟩ := hdg
          have hix : ∀ h : i < s.size, (s[i]'h).toNat = d := fun h => by
            have hs := HS.out
            subst hs
            rw [HAT.out i h]; exact hdd
          have HDD := Lib.hid hdd
          have j1 : (i : Int) < (n9 : Int) := by omega
          have j2 : (i : Int) < (r : Int) := by omega
          have v1 : IntKind.u64.wrap ((p : Int) * 10) = (p : Int) * 10 := by simp [IntKind.wrap, IntKind.bits, IntKind.signed]; omega
          have v2 : IntKind.u64.wrap ((q : Int) * 10) = (q : Int) * 10 := by simp [IntKind.wrap, IntKind.bits, IntKind.signed]; omega
          have v3 : IntKind.u8.wrap ((d : Int) - 48) = (d : Int) - 48 := by simp [IntKind.wrap, IntKind.bits, IntKind.signed]; omega
          have v4 : IntKind.u64.wrap ((d : Int) - 48) = (d : Int) - 48 := by simp [IntKind.wrap, IntKind.bits, IntKind.signed]; omega
          have v5 : IntKind.u64.wrap ((q : Int) * 10 + ((d : Int) - 48)) = (q : Int) * 10 + ((d : Int) - 48) := by simp [IntKind.wrap, IntKind.bits, IntKind.signed]; omega
          clear hp hq hdd hdi hlen
          go_wp2_with fail
          go_round
          case rel =>
            refine ⟨i + 1, p * 10, q * 10 + (d - 48), by go_num, ?_, ?_, by omega, by rw [HP.out, Nat.pow_succ], ?_⟩
            · congr 1
            · congr 1; omega
            · rw [decN_take_succ (by rw [List.length_drop, HR.out]; omega), HDD.out, HQ.out]
          case measure => simp [intOf]; omega
        · obtain rfl : i = n9 := by omega
          have hx : decN (bs.take k) * p + q = decN (bs.take (k + i)) := by
            rw [HP.out, HQ.out, List.take_add, decN_append, hlen]
          have HX := Lib.hid hx
          have hdl := dec_len hd k
          have hsc := scaleadd_any (s := p) (c0 := q) HG.out hbr.size hp0 hp9 (by omega) (by omega)
          rw [hx] at hsc
          have HSC := Lib.hid hsc
          clear hp hq hlen hx hsc hdl
          go_wp2_with fail
          refine HSC.out.mono ?_
          rintro e w2 ⟨A', n', c', rfl, hg2, hb2⟩
          have hb3 := hbr.trans hb2
          go_wp2_with fail
          go_roundw
          case rel => exact ⟨k + i, A', n', c', by rw [HS2.out], by have := HR.out; omega, rfl, hg2, hb3⟩
          case measure =>
            have h2 := HS2.out
            subst h2
            simp only [strLen]
            rw [strB_size, hsz, List.length_drop]
            have := HR.out
            omega
    · obtain rfl : k = bs.length := by omega
      have hsz3 : (strB (bs.drop bs.length)).size = 0 := by rw [hsz]; omega
      have hraw := hgr.raw (Nat.le_trans (dec_len hd bs.length) (by omega))
      rw [List.take_length] at hraw
      have HRW := Lib.hid hraw
      obtain ⟨s, hs⟩ : ∃ s, strB (bs.drop bs.length) = s := ⟨_, rfl⟩
      rw [hs] at hsz3 ⊢
      clear hsz hs hraw hgr
      go_wp2_with fail
      go_ret2
      exact ⟨A, n, c, rfl, HRW.out, hbr⟩
end Go.Proofs.YtacfdcfkfjildaaDoor
