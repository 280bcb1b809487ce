/-
  TextV, TextI, TextJ in one text.
-/
import Derived.Test.YtancgkmkbgkncaaGreatDoorT1
import Derived.Test.YtancgkmkbgkncaaGreatDoorReads
import Derived.Test.YtancgkmkbgkncaaGreatDoorS1
import Derived.Test.YtancgkmkbgkncaaGreatDoorK10
import Derived.Test.YtancgkmkbgkncaaGreatDoorK8
namespace Go.Proofs.YtancgkmkbgkncaaGreatDoor
open Go.RowKit

theorem fmt_v {A : Option Addr} {n c x L : Nat} {w : World} (hx : RV w (.slice A n c) x L) (hL : L ≤ 1000) (htab : Lib.TabIs Tryz.prog w "internal/strconv.uint64pow10" .u64 Lib.pow10Tab) :
    Calls Tryz.prog 55 #[.slice A n c] w fun e w' => e = .returned (.string (strB (decT x))) ∧ Below w.heap.size w w' := by
  obtain ⟨ds, h1, h2, h3⟩ := hx
  exact format_any h1 (Lib.hid h2) (by omega) htab
theorem parse_v {bs : List Nat} {w : World} {L : Nat} (hb : OkB bs) (hd : ∀ b ∈ bs, Dig b) (hne : bs ≠ []) (hl : bs.length ≤ L) (hL : L ≤ 4096) :
    Calls Tryz.prog 49 #[.string (strB bs)] w fun e w' => ∃ A n c, e = .returned (.tuple #[.slice A n c, .nilIface]) ∧ NV w' (.slice A n c) (decN bs) L ∧ Below w.heap.size w w' := by
  refine (parse_yes hb hd hne (by omega)).mono ?_
  rintro e w' ⟨A, n, c, rfl, hN, hbl⟩
  have h1 := dec_len hd bs.length
  rw [List.take_length] at h1
  exact ⟨A, n, c, rfl, ⟨hN, lt_of_digs_length (Nat.le_trans h1 hl)⟩, hbl⟩
theorem readn_v {bs : List Nat} {w : World} {L : Nat} (hb : OkB bs) (hd : ∀ b ∈ bs, Dig b) (hne : bs ≠ []) (hl : bs.length ≤ L) (hL : L ≤ 4096) :
    Calls Tryz.prog 33 #[.string (strB bs)] w fun e w' => ∃ A n c, e = .returned (.tuple #[.slice A n c, .int .i64 0]) ∧ NV w' (.slice A n c) (decN bs) L ∧ Below w.heap.size w w' := by
  refine (readn_yes hb hd hne (by omega)).mono ?_
  rintro e w' ⟨A, n, c, rfl, hN, hbl⟩
  have h1 := dec_len hd bs.length
  rw [List.take_length] at h1
  exact ⟨A, n, c, rfl, ⟨hN, lt_of_digs_length (Nat.le_trans h1 hl)⟩, hbl⟩
theorem text_v {A : Option Addr} {n c x L : Nat} {w : World} (hX : NV w (.slice A n c) x L) (hL : L ≤ 1000) :
    Calls Tryz.prog 57 #[.slice A n c] w fun e w' => e = .returned (.string (strB (decT x))) ∧ Below w.heap.size w w' :=
  text_any hX.1 (by rw [(Raw.cap hX.1).1]; exact Nat.le_trans (digs_length_le hX.2) hL)
end Go.Proofs.YtancgkmkbgkncaaGreatDoor
namespace Go.Proofs.YtancgkmkbgkncaaGreatDoor
open Go.RowKit

theorem ret_int_e {fn : Func} {p q : Tmp} (h : fn.results = #[.cell p 27, .tmp q]) {tmps : Array Value} {w : World} {g : Nat} {a b : Value} {t : TypeId} (hp : tmps.getD p undef = .pointer (some ⟨g, 0, none⟩)) (hb : Box w g #[a, b] t) :
    (results fn tmps).run Tryz.prog w = .ok (.tuple #[.agg #[a, b], tmps.getD q undef]) w := by
  have hp' : tmps[p]?.getD undef = .pointer (some ⟨g, 0, none⟩) := by simpa using hp
  have h1 := run_loadVar_row (P := Tryz.prog) w g t 27 #[a, b] (0, 0) _ hb Tryz.underlying27 rfl info_int
  simp [results, h, hp', asAddr, h1]
theorem ret_intN_e {fn : Func} {p q : Tmp} (h : fn.results = #[.cell p 43, .tmp q]) {tmps : Array Value} {w : World} {g : Nat} {a b : Value} {t : TypeId} (hp : tmps.getD p undef = .pointer (some ⟨g, 0, none⟩)) (hb : Box w g #[a, b] t) :
    (results fn tmps).run Tryz.prog w = .ok (.tuple #[.agg #[a, b], tmps.getD q undef]) w := by
  have hp' : tmps[p]?.getD undef = .pointer (some ⟨g, 0, none⟩) := by simpa using hp
  have h1 := run_loadVar_row (P := Tryz.prog) w g t 43 #[a, b] (0, 0) _ hb Tryz.underlying43 rfl info_intN
  simp [results, h, hp', asAddr, h1]

section
variable {bs : List Nat} {L : Nat} {w : World}
set_option maxRecDepth 100000 in
theorem iparse_yes (hb : OkB bs) (hd : ∀ b ∈ (splitM bs).2, Dig b) (hne : (splitM bs).2 ≠ []) (hl : bs.length ≤ L) (hL : L ≤ 4096) :
    Calls Tryz.prog 48 #[.string (strB bs)] w fun e w' => ∃ t B k d, e = .returned (.tuple #[.agg #[.bool t, .slice B k d], .nilIface]) ∧ NI w' t (.slice B k d) (sg (splitM bs).1 (decN (splitM bs).2)) L ∧ Below w.heap.size w w' := by
  have HC := Lib.hid (fun W => cutprefix_v hb (by omega) W)
  have hl2 := split_len bs
  have HP := Lib.hid (fun W => parse_v (w := W) (L := L) (split_ok hb) hd hne (by omega) hL)
  generalize (splitM bs).1 = s at *
  generalize (splitM bs).2 = ds at *
  clear hb hd hne hl2
  go_enter Tryz.func48, Tryz.ntmps48
  go_wp2_with fail
  obtain ⟨W, hW, b0, hbW, hsW⟩ := boxes1 w #[.bool false, .slice none 0 0] 27
  rw [hW]
  clear hW
  refine (HC.out W).mono ?_
  rintro e w' ⟨rfl, rfl⟩
  go_wp2_with fail
  refine (HP.out W).mono ?_
  rintro e w1 ⟨B, k, d, rfl, hN, hb1⟩
  have q0 := b0.below hb1
  go_wp2_with fail
  refine (signed_v s hN rfl).mono ?_
  rintro e w2 ⟨t, rfl, hI, hb2⟩
  have p0 := q0.below hb2
  have r0 := p0.cell 0 _ rfl
  have r1 := p0.cell 1 _ rfl
  have f0 := p0.frozen 0
  have f1 := p0.frozen 1
  have hbT := hbW.trans ((hb1.trans (hb2.mono hb1.size)).mono hbW.size)
  have hF := hI.stored p0 (notInt_box _ _ _ _) (.bool t) (.slice B k d)
  have hbf := below_stored (g := w.heap.size) hbT (by omega) (.bool t) (.slice B k d)
  have hbx := p0.stored (.bool t) (.slice B k d)
  clear b0 q0 hI hN
  go_wp2_with fail
  refine bodyPost_ret (ret_int_e rfl rfl hbx) rfl ?_
  exact ⟨t, B, k, d, rfl, hF, hbf⟩
set_option maxRecDepth 100000 in
theorem iparse_no {a : Addr} (hb : OkB bs) (hl : bs.length ≤ 4096) (hn : ¬ ((∀ b ∈ (splitM bs).2, Dig b) ∧ (splitM bs).2 ≠ [])) (hE : w.cell? ⟨0, 0, none⟩ = some (.iface 195 (.pointer (some a)))) :
    Calls Tryz.prog 48 #[.string (strB bs)] w fun e w' => e = .returned (.tuple #[.agg #[.bool false, .slice none 0 0], .iface 195 (.pointer (some a))]) ∧ Below w.heap.size w w' := by
  have HC := Lib.hid (fun W => cutprefix_v hb (by omega) W)
  have hl2 := split_len bs
  have hblk := World.block_lt_of_cell? _ _ hE
  have HP := Lib.hid (fun W (hb1 : Below w.heap.size w W) => parse_no (w := W) (a := a) (split_ok hb) (by omega) hn ((hb1.cell (p := ⟨0, 0, none⟩) hblk).trans hE))
  generalize (splitM bs).1 = s at *
  generalize (splitM bs).2 = ds at *
  clear hb hn hl2 hE
  go_enter Tryz.func48, Tryz.ntmps48
  go_wp2_with fail
  obtain ⟨W, hW, b0, hbW, hsW⟩ := boxes1 w #[.bool false, .slice none 0 0] 27
  rw [hW]
  clear hW
  refine (HC.out W).mono ?_
  rintro e w' ⟨rfl, rfl⟩
  go_wp2_with fail
  refine (HP.out W hbW).mono ?_
  rintro e w2 ⟨rfl, hb2⟩
  have p0 := b0.below hb2
  have r0 := p0.cell 0 _ rfl
  have r1 := p0.cell 1 _ rfl
  have f0 := p0.frozen 0
  have f1 := p0.frozen 1
  have hbT := hbW.trans (hb2.mono hbW.size)
  have hbf := below_stored (g := w.heap.size) hbT (by omega) (.bool false) (.slice none 0 0)
  have hbx := p0.stored (.bool false) (.slice none 0 0)
  clear b0
  go_wp2_with fail
  refine bodyPost_ret (ret_int_e rfl rfl hbx) rfl ?_
  exact ⟨rfl, hbf⟩
end
end Go.Proofs.YtancgkmkbgkncaaGreatDoor
namespace Go.Proofs.YtancgkmkbgkncaaGreatDoor
open Go.RowKit

section
variable {bs : List Nat} {L : Nat} {w : World}
set_option maxRecDepth 100000 in
theorem readI_gen {kk v : Nat} (hb : OkB bs) (hl : bs.length ≤ 4096)
    (H : ∀ W : World, Below w.heap.size w W → Calls Tryz.prog 33 #[.string (strB (splitM bs).2)] W fun e w' => ∃ A n c, e = .returned (.tuple #[.slice A n c, .int .i64 (kk : Int)]) ∧ NV w' (.slice A n c) v L ∧ Below W.heap.size W w') :
    Calls Tryz.prog 31 #[.string (strB bs)] w fun e w' => ∃ t B k d, e = .returned (.tuple #[.agg #[.bool t, .slice B k d], .int .i64 (kk : Int)]) ∧ NI w' t (.slice B k d) (sg (splitM bs).1 v) L ∧ Below w.heap.size w w' := by
  rcases bs with _ | ⟨b, t⟩
  · have hs : strB [] = ⟨#[]⟩ := rfl
    have hsp : splitM [] = (false, []) := rfl
    rw [hsp] at H ⊢
    simp only at H ⊢
    rw [hs] at H ⊢
    have HH := Lib.hid H
    clear H hsp hs
    go_enter Tryz.func31, Tryz.ntmps31
    go_wp2_with fail
    obtain ⟨W, hW, b0, hbW, hsW⟩ := boxes1 w #[.bool false, .slice none 0 0] 43
    rw [hW]
    clear hW
    refine (HH.out W hbW).mono ?_
    rintro e w1 ⟨B, k, d, rfl, hN, hb1⟩
    have q0 := b0.below hb1
    go_wp2_with fail
    refine (nmake_v _ hN rfl).mono ?_
    rintro e w2 ⟨t, rfl, hI, hb2⟩
    have p0 := q0.below hb2
    have r0 := p0.cell 0 _ rfl
    have r1 := p0.cell 1 _ rfl
    have f0 := p0.frozen 0
    have f1 := p0.frozen 1
    have hbT := hbW.trans ((hb1.trans (hb2.mono hb1.size)).mono hbW.size)
    have hF := hI.stored p0 (notInt_box _ _ _ _) (.bool t) (.slice B k d)
    have hbf := below_stored (g := w.heap.size) hbT (by omega) (.bool t) (.slice B k d)
    have hbx := p0.stored (.bool t) (.slice B k d)
    clear b0 q0 hI hN
    go_wp2_with fail
    refine bodyPost_ret (ret_intN_e rfl rfl hbx) rfl ?_
    exact ⟨t, B, k, d, rfl, hF, hbf⟩
  · have hsz := strB_size (b :: t)
    rw [List.length_cons] at hsz hl
    have htl := strB_tail b t
    have hix : ∀ h : 0 < (strB (b :: t)).size, ((strB (b :: t))[0]'h).toNat = b := fun h => by rw [strB_at hb h]; rfl
    have hemp : (strB (b :: t)).toList.isEmpty = false := by rw [strB_list]; rfl
    have h1 : (1 : Int) ≤ (t.length : Int) + 1 := by omega
    by_cases h45 : b = 45
    · subst h45
      have hsp : splitM (45 :: t) = (true, t) := by rw [splitM_cons, if_pos rfl]
      rw [hsp] at H ⊢
      simp only at H ⊢
      obtain ⟨s, hs⟩ : ∃ s, strB (45 :: t) = s := ⟨_, rfl⟩
      obtain ⟨s2, hs2⟩ : ∃ s, strB t = s := ⟨_, rfl⟩
      rw [hs] at hsz htl hix hemp ⊢
      rw [hs2] at htl H
      have HH := Lib.hid H
      clear H hsp hs hs2 hb
      go_enter Tryz.func31, Tryz.ntmps31
      go_wp2_with fail
      obtain ⟨W, hW, b0, hbW, hsW⟩ := boxes1 w #[.bool false, .slice none 0 0] 43
      rw [hW]
      clear hW
      refine (HH.out W hbW).mono ?_
      rintro e w1 ⟨B, k, d, rfl, hN, hb1⟩
      have q0 := b0.below hb1
      go_wp2_with fail
      refine (nmake_v _ hN rfl).mono ?_
      rintro e w2 ⟨t, rfl, hI, hb2⟩
      have p0 := q0.below hb2
      have r0 := p0.cell 0 _ rfl
      have r1 := p0.cell 1 _ rfl
      have f0 := p0.frozen 0
      have f1 := p0.frozen 1
      have hbT := hbW.trans ((hb1.trans (hb2.mono hb1.size)).mono hbW.size)
      have hF := hI.stored p0 (notInt_box _ _ _ _) (.bool t) (.slice B k d)
      have hbf := below_stored (g := w.heap.size) hbT (by omega) (.bool t) (.slice B k d)
      have hbx := p0.stored (.bool t) (.slice B k d)
      clear b0 q0 hI hN
      go_wp2_with fail
      refine bodyPost_ret (ret_intN_e rfl rfl hbx) rfl ?_
      exact ⟨t, B, k, d, rfl, hF, hbf⟩
    · have hsp : splitM (b :: t) = (false, b :: t) := by rw [splitM_cons, if_neg h45]
      rw [hsp] at H ⊢
      simp only at H ⊢
      have hb45 : ((b : Int) == 45) = false := by rw [beq_eq_false_iff_ne]; omega
      have hb45' : ¬ (b : Int) = 45 := by omega
      obtain ⟨s, hs⟩ : ∃ s, strB (b :: t) = s := ⟨_, rfl⟩
      rw [hs] at hsz hix hemp H ⊢
      have HH := Lib.hid H
      clear H hsp hs hb htl
      go_enter Tryz.func31, Tryz.ntmps31
      go_wp2_with fail
      obtain ⟨W, hW, b0, hbW, hsW⟩ := boxes1 w #[.bool false, .slice none 0 0] 43
      rw [hW]
      clear hW
      refine (HH.out W hbW).mono ?_
      rintro e w1 ⟨B, k, d, rfl, hN, hb1⟩
      have q0 := b0.below hb1
      go_wp2_with fail
      refine (nmake_v _ hN rfl).mono ?_
      rintro e w2 ⟨t, rfl, hI, hb2⟩
      have p0 := q0.below hb2
      have r0 := p0.cell 0 _ rfl
      have r1 := p0.cell 1 _ rfl
      have f0 := p0.frozen 0
      have f1 := p0.frozen 1
      have hbT := hbW.trans ((hb1.trans (hb2.mono hb1.size)).mono hbW.size)
      have hF := hI.stored p0 (notInt_box _ _ _ _) (.bool t) (.slice B k d)
      have hbf := below_stored (g := w.heap.size) hbT (by omega) (.bool t) (.slice B k d)
      have hbx := p0.stored (.bool t) (.slice B k d)
      clear b0 q0 hI hN
      go_wp2_with fail
      refine bodyPost_ret (ret_intN_e rfl rfl hbx) rfl ?_
      exact ⟨t, B, k, d, rfl, hF, hbf⟩
end
/-- The text of an integer. -/
def itoaB (z : Int) : List Nat := (if z < 0 then [45] else []) ++ decT z.natAbs
section
variable {A : Option Addr} {n c L : Nat} {s : Bool} {z : Int} {w : World}
set_option maxRecDepth 100000 in
theorem iformat_v (h : RI w s (.slice A n c) z L) (hL : L ≤ 100) (htab : Lib.TabIs Tryz.prog w "internal/strconv.uint64pow10" .u64 Lib.pow10Tab) :
    Calls Tryz.prog 53 #[.agg #[.bool s, .slice A n c]] w fun e w' => e = .returned (.string (strB (itoaB z))) ∧ Below w.heap.size w w' := by
  have H := fun W (hbW : Below w.heap.size w W) => fmt_v (h.below hbW).rv (by omega) (Go.Joins.tab_stays (show Tryz.prog.globalNamed "internal/strconv.uint64pow10" = some 5 by kernel_rfl) htab hbW (Nat.le_refl _))
  have HH := Lib.hid H
  have hlen := decT_len h.rv.lt
  have hsz := strB_size (decT z.natAbs)
  have hit : itoaB z = (if z < 0 then [45] else []) ++ decT z.natAbs := rfl
  have hap : (⟨#[45]⟩ : ByteArray) ++ strB (decT z.natAbs) = strB ([45] ++ decT z.natAbs) := strB_append [45] _
  generalize decT z.natAbs = ds at *
  have hsum : ¬ 9223372036854775807 < 1 + (strB ds).size := by rw [hsz]; omega
  have hsum2 : ¬ 9223372036854775807 < (⟨#[45]⟩ : ByteArray).size + (strB ds).size := by
    have : (⟨#[45]⟩ : ByteArray).size = 1 := rfl
    rw [this]; exact hsum
  have HIT := Lib.hid hit
  obtain ⟨k, hk⟩ : ∃ k, z.sign = k := ⟨_, rfl⟩
  have HK := Lib.hid hk
  clear H htab hit hlen
  by_cases hz : z < 0
  · have hk1 : k = -1 := by rw [← hk]; exact Int.sign_eq_neg_one_of_neg hz
    subst hk1
    have HZ := Lib.hid hz
    clear hk hz
    go_enter Tryz.func53, Tryz.ntmps53
    go_wp2_with fail
    obtain ⟨W, hW, b0, hbW, hsW⟩ := boxes1 w #[.bool s, .slice A n c] 27
    rw [hW]
    clear hW
    refine (HH.out W hbW).mono ?_
    rintro e w1 ⟨rfl, hb0⟩
    have hb := hbW.trans (hb0.mono hbW.size)
    have h1 := h.below hb
    have q0 := b0.below hb0
    have a0 := q0.cell 0 _ rfl
    have a1 := q0.cell 1 _ rfl
    go_wp2_with fail
    refine (isign_is h1 HK.out).mono ?_
    rintro e w2 ⟨rfl, hb2⟩
    have hb3 := hb.trans (hb2.mono hb.size)
    go_wp2_with fail
    go_returns
    exact ⟨by rw [HIT.out, if_pos HZ.out]; rfl, hb3⟩
  · have hk1 : ¬ k < 0 := by rcases sign_cases z with h | h | h <;> omega
    have hkd : decide (k < 0) = false := decide_eq_false hk1
    have HZ := Lib.hid hz
    clear hk hz
    go_enter Tryz.func53, Tryz.ntmps53
    go_wp2_with fail
    obtain ⟨W, hW, b0, hbW, hsW⟩ := boxes1 w #[.bool s, .slice A n c] 27
    rw [hW]
    clear hW
    refine (HH.out W hbW).mono ?_
    rintro e w1 ⟨rfl, hb0⟩
    have hb := hbW.trans (hb0.mono hbW.size)
    have h1 := h.below hb
    have q0 := b0.below hb0
    have a0 := q0.cell 0 _ rfl
    have a1 := q0.cell 1 _ rfl
    go_wp2_with fail
    refine (isign_is h1 HK.out).mono ?_
    rintro e w2 ⟨rfl, hb2⟩
    have hb3 := hb.trans (hb2.mono hb.size)
    go_wp2_with fail
    go_returns
    exact ⟨by rw [HIT.out, if_neg (by have := HZ.out; omega)]; rfl, hb3⟩
end
end Go.Proofs.YtancgkmkbgkncaaGreatDoor
