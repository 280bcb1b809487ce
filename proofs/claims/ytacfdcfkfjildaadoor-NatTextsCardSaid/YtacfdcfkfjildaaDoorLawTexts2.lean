/-
  Is, ParseNo, AppOk, LawTexts in one text.
-/
import Derived.Test.YtacfdcfkfjildaaDoorParse
import Derived.Test.YtacfdcfkfjildaaDoorChecked
import Derived.LaidEql
import Derived.Stop.Asserts
import Derived.RowKitTokens
import Derived.Deep.QuietTactic
import Derived.BigQuiet
import Derived.Test.YtacfdcfkfjildaaDoorShelf
import Derived.Test.YtacfdcfkfjildaaDoorFormat
import Derived.Test.YtacfdcfkfjildaaDoorText
import Derived.Test.YtacfdcfkfjildaaDoorLaid5
import Derived.LoopN
import Derived.Lib.SmallJoins
import Derived.Lib.LaidTab
import Derived.Test.YtacfdcfkfjildaaDoorReads
import Derived.Test.YtacfdcfkfjildaaDoorForms
namespace Go.Proofs.YtacfdcfkfjildaaDoor
open Go.RowKit Go.Extern.Stop Go.Stop Go.Extern

theorem Tryd.isTypeOf (v : Value) (w : World) : (Extern.ReflectliteType.typeOf #[.iface 172 v]).run Tryd.prog w = .ok (.iface 151 (.agg #[.pointer (some ⟨6, 172, none⟩)])) w := by kernel_rfl
theorem Tryd.isComparable (w : World) : ((Extern.ReflectliteType.method fun t => do Extern.Rtype.noPackHeld "Comparable" t; (fun a => Value.bool a.comparable) <$> typeInfo t) #[.agg #[.pointer (some ⟨6, 172, none⟩)]]).run Tryd.prog w = .ok (.bool true) w := by kernel_rfl
theorem Tryd.isComp : (Tryd.prog.info? 172).map (·.comparable) = some true := by kernel_rfl
theorem Tryd.isSize : (Tryd.prog.info? 197).map (·.size) = some 1 := by kernel_rfl
theorem Tryd.isMethodComparable (v : Value) (w : World) : (Go.method 309 151 v "Comparable").run Tryd.prog w = .ok (152, v) w := by kernel_rfl
set_option maxRecDepth 100000 in
theorem is_same (a : Addr) (w : World) :
    Calls Tryd.prog 39 #[.iface 172 (.pointer (some a)), .iface 172 (.pointer (some a))] w fun e w' => e = .returned (.bool true) ∧ w' = w := by
  obtain ⟨i, hi, hcmp⟩ := Option.map_eq_some_iff.1 Tryd.isComp
  obtain ⟨j, hj, hjs⟩ := Option.map_eq_some_iff.1 Tryd.isSize
  have h8 := @run_callFunc_extern Tryd.prog 103 _ Extern.ReflectliteType.typeOf Tryd.func103 (by kernel_rfl) (by kernel_rfl) (by kernel_rfl) (by kernel_rfl)
  have h32 := @run_callFunc_extern Tryd.prog 152 _ (Extern.ReflectliteType.method fun t => do Extern.Rtype.noPackHeld "Comparable" t; pure (.bool (← typeInfo t).comparable)) Tryd.func152 (by kernel_rfl) (by kernel_rfl) (by kernel_rfl) (by kernel_rfl)
  have tT := Tryd.isTypeOf
  have cT := Tryd.isComparable
  have mR := Tryd.isMethodComparable
  have heq := run_eql_iface_ptr_same (P := Tryd.prog) w a Tryd.underlying50 Tryd.underlying172 hi hcmp hj
  go_enter Tryd.func39, Tryd.ntmps39
  go_wp2
  refine wp_loop_rounds 1 ?_
  rw [rounds_succ]
  go_wp2
  go_ret
  exact ⟨rfl, rfl⟩
end Go.Proofs.YtacfdcfkfjildaaDoor
namespace Go.Proofs.YtacfdcfkfjildaaDoor
open Go.RowKit

set_option maxRecDepth 100000 in
theorem parse_no {bs : List Nat} {w : World} {a : Addr} (hb : OkB bs) (hl : bs.length ≤ 1000000000) (hn : ¬ ((∀ b ∈ bs, Dig b) ∧ bs ≠ [])) (hE : w.cell? ⟨0, 0, none⟩ = some (.iface 172 (.pointer (some a)))) :
    Calls Tryd.prog 37 #[.string (strB bs)] w fun e w' => e = .returned (.tuple #[.slice none 0 0, .iface 172 (.pointer (some a))]) ∧ Below w.heap.size w w' := by
  have HO := Lib.hid (only_no (w := w) hb hl hn)
  clear hn
  go_enter Tryd.func37, Tryd.ntmps37
  go_wp2_with fail
  refine HO.out.mono ?_
  rintro e w' ⟨rfl, rfl⟩
  go_wp2_with fail
  go_quiet (fail)
  go_wp2_with fail
  go_ret2
  exact ⟨rfl, below_drewN (Below.refl _ _) _⟩
set_option maxRecDepth 100000 in
theorem parse_big {bs : List Nat} {w : World} {a : Addr} (hb : OkB bs) (hl : bs.length ≤ 1000000000) (hd : ∀ b ∈ bs, Dig b) (h4 : 4096 < bs.length) (hE : w.cell? ⟨1, 0, none⟩ = some (.iface 172 (.pointer (some a)))) :
    Calls Tryd.prog 37 #[.string (strB bs)] w fun e w' => e = .returned (.tuple #[.slice none 0 0, .iface 172 (.pointer (some a))]) ∧ Below w.heap.size w w' := by
  have HO := Lib.hid (only_yes (w := w) hb hl hd (by intro e; rw [e] at h4; simp at h4))
  have hsz := strB_size bs
  have h5 : (4096 : Int) < (bs.length : Int) := by omega
  clear hd
  go_enter Tryd.func37, Tryd.ntmps37
  go_wp2_with fail
  refine HO.out.mono ?_
  rintro e w' ⟨rfl, rfl⟩
  go_wp2_with fail
  go_quiet (fail)
  go_wp2_with fail
  go_ret2
  exact ⟨rfl, below_drewN (Below.refl _ _) _⟩
end Go.Proofs.YtacfdcfkfjildaaDoor
namespace Go.Proofs.YtacfdcfkfjildaaDoor
open Go.RowKit

theorem decs_digits {x : Nat} (h : 0 < x) : decs x = (Lib.decDigits x).map UInt8.toNat := by
  induction x using Nat.strongRecOn with
  | ind x ih =>
    rw [Lib.decDigits, decs_pos h]
    rcases Nat.lt_or_ge x 10 with h1 | h1
    · rw [dif_pos h1, show x / 10 = 0 by omega, decs_zero, Nat.mod_eq_of_lt h1]
      simp; omega
    · rw [dif_neg (by omega), ih (x / 10) (by omega) (by omega), List.map_append]
      simp; omega
theorem appOk_any {w : World} {t : Nat} (h0 : 0 < t) (h9 : t < 18446744073709551616) (htab : Lib.TabIs Tryd.prog w "internal/strconv.uint64pow10" .u64 Lib.pow10Tab) : AppOk w t := fun W hbW => by
  have hT : Lib.TabIs Tryd.prog W "internal/strconv.uint64pow10" .u64 Lib.pow10Tab := Go.Joins.tab_stays (show Tryd.prog.globalNamed "internal/strconv.uint64pow10" = some 3 by kernel_rfl) htab hbW (Nat.le_refl _)
  have hin : Calls Tryd.prog 120 #[.slice none 0 0, .int .u64 (t : Int), .int .i64 10] W fun e W' => ∃ v, e = .returned v ∧ GrowB W' W.heap.size v (decs t) ∧ Below W.heap.size W W' := by
    have hown : W.ownsRow W.heap.size 5 1 (.slice none 0 0) 0 [] := ⟨by simp, .inl ⟨rfl, rfl⟩⟩
    have hd := decs_digits h0
    have hlen : (decs t).length = (Lib.decDigits t).length := by rw [hd, List.length_map]
    have hmap : (decs t).map bv = Lib.byteCells (Lib.decDigits t) := by
      rw [hd, List.map_map]; rfl
    have key : ∀ (e : Ending) (W' : World), (∃ v', e = .returned v' ∧ W'.ownsRow W.heap.size 5 1 v' (0 + (Lib.decDigits t).length) ([] ++ Lib.byteCells (Lib.decDigits t)) ∧ Below W.heap.size W W' ∧ Lib.OthersKept 5 none W W') → ∃ v, e = .returned v ∧ GrowB W' W.heap.size v (decs t) ∧ Below W.heap.size W W' := by
      rintro e W' ⟨v, rfl, ho, hb, _⟩
      rw [Nat.zero_add, List.nil_append, ← hlen, ← hmap] at ho
      exact ⟨v, rfl, ⟨okB_of (decs_byte t), ho⟩, hb⟩
    rcases Nat.lt_or_ge t 100 with h1 | h1
    · exact (Tryd.internal_strconv_AppendUint_10_small W.heap.size 0 t h1 _ [] W hown (Nat.le_refl _) (by omega)).mono key
    · exact (Tryd.internal_strconv_AppendUint_10_big W.heap.size 0 t h1 h9 _ [] W hown (Nat.le_refl _) (by omega) hT).mono key
  have H := Lib.hid hin
  clear hin hT htab
  go_enter Tryd.func105, Tryd.ntmps105
  go_wp2_with fail
  refine H.out.mono ?_
  rintro e W' ⟨v, rfl, hg, hb⟩
  go_wp2_with fail
  go_ret
  exact ⟨v, rfl, hg, hb⟩
theorem top9_bounds (x : Nat) (h : 0 < x) : 0 < top9 x ∧ top9 x < 1000000000 := by
  induction x using Nat.strongRecOn with
  | ind x ih =>
    rcases Nat.lt_or_ge x 1000000000 with h1 | h1
    · rw [top9_small h1]; exact ⟨h, h1⟩
    · rw [top9_big h1]; exact ih (x / 1000000000) (by omega) (by omega)
set_option maxRecDepth 100000 in
theorem format_any {A : Option Addr} {n c x : Nat} {ds : List Nat} {w : World} (hx : Raw w (.slice A n c) ds) (hvx : Hid (val ds = x)) (hl : ds.length ≤ 1000) (htab : Lib.TabIs Tryd.prog w "internal/strconv.uint64pow10" .u64 Lib.pow10Tab) :
    Calls Tryd.prog 40 #[.slice A n c] w fun e w' => e = .returned (.string (strB (decT x))) ∧ Below w.heap.size w w' := by
  rcases Nat.eq_zero_or_pos x with rfl | h0
  · have hd : strB (decT 0) = ⟨#[48]⟩ := rfl
    rw [hd]
    clear htab hd
    go_enter Tryd.func40, Tryd.ntmps40
    go_wp2_with fail
    refine (norm_is hx hvx).mono ?_
    rintro e w1 ⟨v, rfl, hg, hb⟩
    obtain ⟨B, d, rfl⟩ := hg.form
    rw [digs_zero]
    clear hg
    go_wp2_with fail
    refine wp_loop_rounds 1 ?_
    rw [rounds_succ]
    go_wp2_with fail
    go_ret
    exact ⟨rfl, hb⟩
  · have hd : decT x = decs x := by unfold decT; rw [if_neg (by omega)]
    rw [hd]
    obtain ⟨h1, h2⟩ := top9_bounds x h0
    exact format_pos hx hvx h0 (appOk_any h1 (by omega) htab) hl
theorem decs_dig (x : Nat) : ∀ b ∈ decs x, Dig b := by
  induction x using Nat.strongRecOn with
  | ind x ih =>
    rcases Nat.eq_zero_or_pos x with h | h
    · subst h; rw [decs_zero]; exact fun _ h => by cases h
    · rw [decs_pos h]
      intro b hb
      rcases List.mem_append.1 hb with hb | hb
      · exact ih (x / 10) (by omega) b hb
      · rw [List.mem_singleton] at hb; rw [hb]; exact ⟨by omega, by omega⟩
theorem decN_decs (x : Nat) : decN (decs x) = x := by
  induction x using Nat.strongRecOn with
  | ind x ih =>
    rcases Nat.eq_zero_or_pos x with h | h
    · subst h; rw [decs_zero]; rfl
    · rw [decs_pos h, decN_snoc, ih (x / 10) (by omega)]; omega
theorem decT_dig (x : Nat) : ∀ b ∈ decT x, Dig b := by
  unfold decT; split
  · intro b hb; rw [List.mem_singleton] at hb; rw [hb]; exact ⟨by omega, by omega⟩
  · exact decs_dig x
theorem decT_ne (x : Nat) : decT x ≠ [] := by
  unfold decT; split
  · simp
  · rw [decs_pos (by omega)]; simp
theorem decN_decT (x : Nat) : decN (decT x) = x := by
  unfold decT; split
  · rename_i h; subst h; rfl
  · exact decN_decs x
theorem decT_ok (x : Nat) : OkB (decT x) := fun b hb => by
  obtain ⟨_, h⟩ := decT_dig x b hb; omega
theorem decT_len {x L : Nat} (h : x < Bs L) : (decT x).length ≤ 10 * L + 1 := by
  unfold decT; split
  · simp
  · exact Nat.le_trans (decs_length (10 * L) x (Nat.lt_of_lt_of_le h (Bs_ten L))) (by omega)
set_option maxRecDepth 100000 in
theorem smalla_yes {A : Option Addr} {n c g m : Nat} {w : World} (hc : w.cell? ⟨g, 0, none⟩ = some (.slice A n c)) (hn : n ≤ m) :
    Calls Tryd.prog 14 #[.int .i64 (m : Int), .slice (some ⟨g, 0, none⟩) 1 1] w fun e w' => e = .returned (.bool true) ∧ w = w' := by
  have h1 : ¬ m < n := by omega
  go_enter Tryd.func14, Tryd.ntmps14
  go_wp2_with fail
  refine wp_loop_rounds 2 ?_
  rw [rounds_succ]
  go_wp2_with fail
  rw [rounds_succ]
  go_wp2_with fail
  go_ret
  exact ⟨rfl, rfl⟩
set_option maxRecDepth 100000 in
theorem smalla_no {A : Option Addr} {n c g m : Nat} {w : World} (hc : w.cell? ⟨g, 0, none⟩ = some (.slice A n c)) (hn : m < n) :
    Calls Tryd.prog 14 #[.int .i64 (m : Int), .slice (some ⟨g, 0, none⟩) 1 1] w fun e w' => e = .returned (.bool false) ∧ w = w' := by
  go_enter Tryd.func14, Tryd.ntmps14
  go_wp2_with fail
  refine wp_loop_rounds 1 ?_
  rw [rounds_succ]
  go_wp2_with fail
  go_ret
  exact ⟨rfl, rfl⟩
end Go.Proofs.YtacfdcfkfjildaaDoor
namespace Go.Proofs.YtacfdcfkfjildaaDoor
open Go.RowKit

theorem fmt_v {A : Option Addr} {n c x L : Nat} {w : World} (hx : RV w (.slice A n c) x L) (hL : L ≤ 1000) (htab : Lib.TabIs Tryd.prog w "internal/strconv.uint64pow10" .u64 Lib.pow10Tab) :
    Calls Tryd.prog 40 #[.slice A n c] w fun e w' => e = .returned (.string (strB (decT x))) ∧ Below w.heap.size w w' := by
  obtain ⟨ds, h1, h2, h3⟩ := hx
  exact format_any h1 (Lib.hid h2) (by omega) htab
theorem parse_v {bs : List Nat} {w : World} {L : Nat} (hb : OkB bs) (hd : ∀ b ∈ bs, Dig b) (hne : bs ≠ []) (hl : bs.length ≤ L) (hL : L ≤ 4096) :
    Calls Tryd.prog 37 #[.string (strB bs)] w fun e w' => ∃ A n c, e = .returned (.tuple #[.slice A n c, .nilIface]) ∧ NV w' (.slice A n c) (decN bs) L ∧ Below w.heap.size w w' := by
  refine (parse_yes hb hd hne (by omega)).mono ?_
  rintro e w' ⟨A, n, c, rfl, hN, hbl⟩
  have h1 := dec_len hd bs.length
  rw [List.take_length] at h1
  exact ⟨A, n, c, rfl, ⟨hN, lt_of_digs_length (Nat.le_trans h1 hl)⟩, hbl⟩
theorem readn_v {bs : List Nat} {w : World} {L : Nat} (hb : OkB bs) (hd : ∀ b ∈ bs, Dig b) (hne : bs ≠ []) (hl : bs.length ≤ L) (hL : L ≤ 4096) :
    Calls Tryd.prog 38 #[.string (strB bs)] w fun e w' => ∃ A n c, e = .returned (.tuple #[.slice A n c, .int .i64 0]) ∧ NV w' (.slice A n c) (decN bs) L ∧ Below w.heap.size w w' := by
  refine (readn_yes hb hd hne (by omega)).mono ?_
  rintro e w' ⟨A, n, c, rfl, hN, hbl⟩
  have h1 := dec_len hd bs.length
  rw [List.take_length] at h1
  exact ⟨A, n, c, rfl, ⟨hN, lt_of_digs_length (Nat.le_trans h1 hl)⟩, hbl⟩
theorem text_v {A : Option Addr} {n c x L : Nat} {w : World} (hX : NV w (.slice A n c) x L) (hL : L ≤ 1000) :
    Calls Tryd.prog 41 #[.slice A n c] w fun e w' => e = .returned (.string (strB (decT x))) ∧ Below w.heap.size w w' :=
  text_any hX.1 (by rw [(Raw.cap hX.1).1]; exact Nat.le_trans (digs_length_le hX.2) hL)
theorem back_v {x : Nat} {w : World} {L : Nat} (hx : x < Bs L) (hL : 10 * L + 1 ≤ 4096) :
    Calls Tryd.prog 37 #[.string (strB (decT x))] w fun e w' => ∃ A n c, e = .returned (.tuple #[.slice A n c, .nilIface]) ∧ NV w' (.slice A n c) x (10 * L + 1) ∧ Below w.heap.size w w' := by
  have h := parse_v (w := w) (decT_ok x) (decT_dig x) (decT_ne x) (decT_len hx) hL
  rwa [decN_decT] at h

set_option maxRecDepth 100000 in
set_option maxHeartbeats 6400000 in
theorem nattexts_any {bs : List Nat} {A : Option Addr} {n c : Nat} {a0 : Addr} {w : World} (hb : OkB bs) (hbl : bs.length ≤ 9223372036854775807) (HA : n ≤ 20 → ∃ ds, Raw w (.slice A n c) ds) (hS : w.cell? ⟨0, 0, none⟩ = some (.iface 172 (.pointer (some a0)))) (htab : Lib.TabIs Tryd.prog w "internal/strconv.uint64pow10" .u64 Lib.pow10Tab) :
    Calls Tryd.prog 7 #[.string (strB bs), .slice A n c] w fun e w' => e = .returned (.bool true) ∧ Below w.heap.size w w' := by
  have hsz := strB_size bs
  have blkS := World.block_lt_of_cell? _ _ hS
  have HS := Lib.hid hS
  have HTAB := Lib.hid htab
  clear hS htab
  rcases Nat.lt_or_ge 200 bs.length with h2 | h2
  · have h3 : (200 : Int) < (bs.length : Int) := by omega
    generalize hsb : strB bs = s at *
    clear hsb HA
    go_enter Tryd.func7, Tryd.ntmps7
    go_wp2_with fail
    refine (known_any _).mono ?_
    rintro e w1 ⟨rfl, hb1⟩
    go_wp2_with fail
    go_ret
    exact ⟨rfl, hb1⟩
  · have h3 : ¬ (200 : Int) < (bs.length : Int) := by omega
    have h3' : ¬ 200 < bs.length := by omega
    obtain ⟨V, hV, b0, H0, hsV⟩ := boxes1 w #[.slice A n c] 23
    have hc0 := b0.cell 0 _ rfl
    rcases Nat.lt_or_ge 20 n with h4 | h4
    · have HSM := Lib.hid (smalla_no hc0 h4)
      clear hc0 b0 hsV HA h4
      go_enter Tryd.func7, Tryd.ntmps7
      go_wp2_with fail
      refine HSM.out.mono ?_
      rintro e w1 ⟨rfl, rfl⟩
      go_wp2_with fail
      refine (known_any _).mono ?_
      rintro e w2 ⟨rfl, hb2⟩
      have hbf := H0.trans (hb2.mono H0.size)
      go_wp2_with fail
      go_ret
      exact ⟨rfl, hbf⟩
    · have HSM := Lib.hid (smalla_yes hc0 h4)
      obtain ⟨ds, hr0⟩ := HA h4
      obtain ⟨x, hx⟩ : ∃ x, val ds = x := ⟨_, rfl⟩
      have fa : RV V (.slice A n c) x 20 := ⟨ds, hr0.below H0, hx, by rw [← hr0.cap.1]; exact h4⟩
      have hlb : bs.length ≤ 200 := h2
      have HLB := Lib.hid hlb
      clear hc0 b0 hsV HA h4 hr0 hx hlb h2
      have tail : ∀ (W : World), Below w.heap.size w W → RV W (.slice A n c) x 20 → Lib.TabIs Tryd.prog W "internal/strconv.uint64pow10" .u64 Lib.pow10Tab := fun W h _ => Go.Joins.tab_stays (show Tryd.prog.globalNamed "internal/strconv.uint64pow10" = some 3 by kernel_rfl) HTAB.out h (Nat.le_refl _)
      have HTL := Lib.hid tail
      clear tail
      rcases Classical.em ((∀ b ∈ bs, Dig b) ∧ bs ≠ []) with hd | hd
      · have HD := Lib.hid hd
        clear hd
        go_enter Tryd.func7, Tryd.ntmps7
        go_wp2_with fail
        refine HSM.out.mono ?_
        rintro e w1 ⟨rfl, rfl⟩
        clear hV
        go_wp2_with fail
        refine (parse_v hb HD.out.1 HD.out.2 HLB.out (by omega)).mono ?_
        rintro e w1 ⟨B1, k1, d1, rfl, f1, hb9⟩
        replace fa := fa.below hb9
        replace H0 := H0.trans (hb9.mono H0.size)
        clear hb9
        go_wp2_with fail
        refine (readn_v hb HD.out.1 HD.out.2 HLB.out (by omega)).mono ?_
        rintro e w2 ⟨B2, k2, d2, rfl, f2, hb9⟩
        replace fa := fa.below hb9
        replace f1 := f1.below hb9
        replace H0 := H0.trans (hb9.mono H0.size)
        clear hb9
        go_wp2_with fail
        refine (samelaw_v f1 f2 rfl (by omega)).mono ?_
        rintro e w3 ⟨rfl, hb9⟩
        replace fa := fa.below hb9
        replace H0 := H0.trans (hb9.mono H0.size)
        clear hb9 f1 f2
        go_wp2_with fail
        refine (fmt_v fa (by omega) (HTL.out _ H0 fa)).mono ?_
        rintro e w4 ⟨rfl, hb9⟩
        replace fa := fa.below hb9
        replace H0 := H0.trans (hb9.mono H0.size)
        clear hb9
        have hbk := back_v (w := w4) fa.lt (by omega)
        have HBK := Lib.hid hbk
        clear hbk
        generalize hts : strB (decT x) = ts at HBK ⊢
        have HTS := Lib.hid hts
        clear hts
        go_wp2_with fail
        refine HBK.out.mono ?_
        rintro e w5 ⟨B5, k5, d5, rfl, f5, hb9⟩
        replace fa := fa.below hb9
        replace H0 := H0.trans (hb9.mono H0.size)
        clear hb9 HBK
        go_wp2_with fail
        refine (known_any _).mono ?_
        rintro e w6 ⟨rfl, hb9⟩
        replace fa := fa.below hb9
        replace f5 := f5.below hb9
        replace H0 := H0.trans (hb9.mono H0.size)
        clear hb9
        go_wp2_with fail
        refine (n_v fa).mono ?_
        rintro e w7 ⟨B7, k7, d7, rfl, f7, hb9⟩
        replace fa := fa.below hb9
        replace f5 := f5.below hb9
        replace H0 := H0.trans (hb9.mono H0.size)
        clear hb9
        go_wp2_with fail
        refine (text_v f7 (by omega)).mono ?_
        rintro e w8 ⟨rfl, hb9⟩
        rw [HTS.out]
        replace fa := fa.below hb9
        replace f5 := f5.below hb9
        replace H0 := H0.trans (hb9.mono H0.size)
        clear hb9 f7
        go_wp2_with fail
        refine (n_v fa).mono ?_
        rintro e w9 ⟨B9, k9, d9, rfl, f9, hb9⟩
        replace f5 := f5.below hb9
        replace H0 := H0.trans (hb9.mono H0.size)
        clear hb9
        go_wp2_with fail
        refine (samelaw_v f5 f9 rfl (by omega)).mono ?_
        rintro e w10 ⟨rfl, hb9⟩
        replace H0 := H0.trans (hb9.mono H0.size)
        go_wp2_with fail
        go_ret
        exact ⟨rfl, H0⟩
      · have HD := Lib.hid hd
        clear hd
        go_enter Tryd.func7, Tryd.ntmps7
        go_wp2_with fail
        refine HSM.out.mono ?_
        rintro e w1 ⟨rfl, rfl⟩
        clear hV
        have hS2 := (H0.cell (p := ⟨0, 0, none⟩) blkS).trans HS.out
        go_wp2_with fail
        refine (parse_no hb (by have := HLB.out; omega) HD.out hS2).mono ?_
        rintro e w1 ⟨rfl, hb9⟩
        replace fa := fa.below hb9
        replace H0 := H0.trans (hb9.mono H0.size)
        clear hb9 hS2
        go_wp2_with fail
        refine (readn_no hb (by have := HLB.out; omega) HD.out).mono ?_
        rintro e w2 ⟨rfl, rfl⟩
        have hS3 := (H0.cell (p := ⟨0, 0, none⟩) blkS).trans HS.out
        go_wp2_with fail
        refine (is_same a0 _).mono ?_
        rintro e w3 ⟨rfl, rfl⟩
        clear hS3
        go_wp2_with fail
        refine (fmt_v fa (by omega) (HTL.out _ H0 fa)).mono ?_
        rintro e w4 ⟨rfl, hb9⟩
        replace fa := fa.below hb9
        replace H0 := H0.trans (hb9.mono H0.size)
        clear hb9
        have hbk := back_v (w := w4) fa.lt (by omega)
        have HBK := Lib.hid hbk
        clear hbk
        generalize hts : strB (decT x) = ts at HBK ⊢
        have HTS := Lib.hid hts
        clear hts
        go_wp2_with fail
        refine HBK.out.mono ?_
        rintro e w5 ⟨B5, k5, d5, rfl, f5, hb9⟩
        replace fa := fa.below hb9
        replace H0 := H0.trans (hb9.mono H0.size)
        clear hb9 HBK
        go_wp2_with fail
        refine (known_any _).mono ?_
        rintro e w6 ⟨rfl, hb9⟩
        replace fa := fa.below hb9
        replace f5 := f5.below hb9
        replace H0 := H0.trans (hb9.mono H0.size)
        clear hb9
        go_wp2_with fail
        refine (n_v fa).mono ?_
        rintro e w7 ⟨B7, k7, d7, rfl, f7, hb9⟩
        replace fa := fa.below hb9
        replace f5 := f5.below hb9
        replace H0 := H0.trans (hb9.mono H0.size)
        clear hb9
        go_wp2_with fail
        refine (text_v f7 (by omega)).mono ?_
        rintro e w8 ⟨rfl, hb9⟩
        rw [HTS.out]
        replace fa := fa.below hb9
        replace f5 := f5.below hb9
        replace H0 := H0.trans (hb9.mono H0.size)
        clear hb9 f7
        go_wp2_with fail
        refine (n_v fa).mono ?_
        rintro e w9 ⟨B9, k9, d9, rfl, f9, hb9⟩
        replace f5 := f5.below hb9
        replace H0 := H0.trans (hb9.mono H0.size)
        clear hb9
        go_wp2_with fail
        refine (samelaw_v f5 f9 rfl (by omega)).mono ?_
        rintro e w10 ⟨rfl, hb9⟩
        replace H0 := H0.trans (hb9.mono H0.size)
        go_wp2_with fail
        go_ret
        exact ⟨rfl, H0⟩
end Go.Proofs.YtacfdcfkfjildaaDoor
