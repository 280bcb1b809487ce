/-
  Is, ParseNo, AppOk, Prefix, TextV, TextI, TextJ, LawITexts in one text.
-/
import Derived.Test.YtacfdcfkfjildaaDoorParse
import Derived.Test.YtacfdcfkfjildaaDoorChecked
import Derived.LaidEql
import Derived.Stop.Asserts
import Derived.RowKitTokens
import Derived.Deep.QuietTactic
import Derived.BigQuiet
import Derived.Test.YtacfdcfkfjildaaDoorShelf
import Derived.Test.YtacfdcfkfjildaaDoorFormat
import Derived.Test.YtacfdcfkfjildaaDoorText
import Derived.Test.YtacfdcfkfjildaaDoorLaid5
import Derived.LoopN
import Derived.Lib.SmallJoins
import Derived.Lib.LaidTab
import Derived.Test.YtacfdcfkfjildaaDoorReads
import Derived.Test.YtacfdcfkfjildaaDoorForms
import Derived.Test.YtacfdcfkfjildaaDoorBigA
namespace Go.Proofs.YtacfdcfkfjildaaDoor
open Go.RowKit Go.Extern.Stop Go.Stop Go.Extern

theorem Tryd.isTypeOf (v : Value) (w : World) : (Extern.ReflectliteType.typeOf #[.iface 172 v]).run Tryd.prog w = .ok (.iface 151 (.agg #[.pointer (some ⟨6, 172, none⟩)])) w := by kernel_rfl
theorem Tryd.isComparable (w : World) : ((Extern.ReflectliteType.method fun t => do Extern.Rtype.noPackHeld "Comparable" t; (fun a => Value.bool a.comparable) <$> typeInfo t) #[.agg #[.pointer (some ⟨6, 172, none⟩)]]).run Tryd.prog w = .ok (.bool true) w := by kernel_rfl
theorem Tryd.isComp : (Tryd.prog.info? 172).map (·.comparable) = some true := by kernel_rfl
theorem Tryd.isSize : (Tryd.prog.info? 197).map (·.size) = some 1 := by kernel_rfl
theorem Tryd.isMethodComparable (v : Value) (w : World) : (Go.method 309 151 v "Comparable").run Tryd.prog w = .ok (152, v) w := by kernel_rfl
set_option maxRecDepth 100000 in
theorem is_same (a : Addr) (w : World) :
    Calls Tryd.prog 39 #[.iface 172 (.pointer (some a)), .iface 172 (.pointer (some a))] w fun e w' => e = .returned (.bool true) ∧ w' = w := by
  obtain ⟨i, hi, hcmp⟩ := Option.map_eq_some_iff.1 Tryd.isComp
  obtain ⟨j, hj, hjs⟩ := Option.map_eq_some_iff.1 Tryd.isSize
  have h8 := @run_callFunc_extern Tryd.prog 103 _ Extern.ReflectliteType.typeOf Tryd.func103 (by kernel_rfl) (by kernel_rfl) (by kernel_rfl) (by kernel_rfl)
  have h32 := @run_callFunc_extern Tryd.prog 152 _ (Extern.ReflectliteType.method fun t => do Extern.Rtype.noPackHeld "Comparable" t; pure (.bool (← typeInfo t).comparable)) Tryd.func152 (by kernel_rfl) (by kernel_rfl) (by kernel_rfl) (by kernel_rfl)
  have tT := Tryd.isTypeOf
  have cT := Tryd.isComparable
  have mR := Tryd.isMethodComparable
  have heq := run_eql_iface_ptr_same (P := Tryd.prog) w a Tryd.underlying50 Tryd.underlying172 hi hcmp hj
  go_enter Tryd.func39, Tryd.ntmps39
  go_wp2
  refine wp_loop_rounds 1 ?_
  rw [rounds_succ]
  go_wp2
  go_ret
  exact ⟨rfl, rfl⟩
end Go.Proofs.YtacfdcfkfjildaaDoor
namespace Go.Proofs.YtacfdcfkfjildaaDoor
open Go.RowKit

set_option maxRecDepth 100000 in
theorem parse_no {bs : List Nat} {w : World} {a : Addr} (hb : OkB bs) (hl : bs.length ≤ 1000000000) (hn : ¬ ((∀ b ∈ bs, Dig b) ∧ bs ≠ [])) (hE : w.cell? ⟨0, 0, none⟩ = some (.iface 172 (.pointer (some a)))) :
    Calls Tryd.prog 37 #[.string (strB bs)] w fun e w' => e = .returned (.tuple #[.slice none 0 0, .iface 172 (.pointer (some a))]) ∧ Below w.heap.size w w' := by
  have HO := Lib.hid (only_no (w := w) hb hl hn)
  clear hn
  go_enter Tryd.func37, Tryd.ntmps37
  go_wp2_with fail
  refine HO.out.mono ?_
  rintro e w' ⟨rfl, rfl⟩
  go_wp2_with fail
  go_quiet (fail)
  go_wp2_with fail
  go_ret2
  exact ⟨rfl, below_drewN (Below.refl _ _) _⟩
set_option maxRecDepth 100000 in
theorem parse_big {bs : List Nat} {w : World} {a : Addr} (hb : OkB bs) (hl : bs.length ≤ 1000000000) (hd : ∀ b ∈ bs, Dig b) (h4 : 4096 < bs.length) (hE : w.cell? ⟨1, 0, none⟩ = some (.iface 172 (.pointer (some a)))) :
    Calls Tryd.prog 37 #[.string (strB bs)] w fun e w' => e = .returned (.tuple #[.slice none 0 0, .iface 172 (.pointer (some a))]) ∧ Below w.heap.size w w' := by
  have HO := Lib.hid (only_yes (w := w) hb hl hd (by intro e; rw [e] at h4; simp at h4))
  have hsz := strB_size bs
  have h5 : (4096 : Int) < (bs.length : Int) := by omega
  clear hd
  go_enter Tryd.func37, Tryd.ntmps37
  go_wp2_with fail
  refine HO.out.mono ?_
  rintro e w' ⟨rfl, rfl⟩
  go_wp2_with fail
  go_quiet (fail)
  go_wp2_with fail
  go_ret2
  exact ⟨rfl, below_drewN (Below.refl _ _) _⟩
end Go.Proofs.YtacfdcfkfjildaaDoor
namespace Go.Proofs.YtacfdcfkfjildaaDoor
open Go.RowKit

theorem decs_digits {x : Nat} (h : 0 < x) : decs x = (Lib.decDigits x).map UInt8.toNat := by
  induction x using Nat.strongRecOn with
  | ind x ih =>
    rw [Lib.decDigits, decs_pos h]
    rcases Nat.lt_or_ge x 10 with h1 | h1
    · rw [dif_pos h1, show x / 10 = 0 by omega, decs_zero, Nat.mod_eq_of_lt h1]
      simp; omega
    · rw [dif_neg (by omega), ih (x / 10) (by omega) (by omega), List.map_append]
      simp; omega
theorem appOk_any {w : World} {t : Nat} (h0 : 0 < t) (h9 : t < 18446744073709551616) (htab : Lib.TabIs Tryd.prog w "internal/strconv.uint64pow10" .u64 Lib.pow10Tab) : AppOk w t := fun W hbW => by
  have hT : Lib.TabIs Tryd.prog W "internal/strconv.uint64pow10" .u64 Lib.pow10Tab := Go.Joins.tab_stays (show Tryd.prog.globalNamed "internal/strconv.uint64pow10" = some 3 by kernel_rfl) htab hbW (Nat.le_refl _)
  have hin : Calls Tryd.prog 120 #[.slice none 0 0, .int .u64 (t : Int), .int .i64 10] W fun e W' => ∃ v, e = .returned v ∧ GrowB W' W.heap.size v (decs t) ∧ Below W.heap.size W W' := by
    have hown : W.ownsRow W.heap.size 5 1 (.slice none 0 0) 0 [] := ⟨by simp, .inl ⟨rfl, rfl⟩⟩
    have hd := decs_digits h0
    have hlen : (decs t).length = (Lib.decDigits t).length := by rw [hd, List.length_map]
    have hmap : (decs t).map bv = Lib.byteCells (Lib.decDigits t) := by
      rw [hd, List.map_map]; rfl
    have key : ∀ (e : Ending) (W' : World), (∃ v', e = .returned v' ∧ W'.ownsRow W.heap.size 5 1 v' (0 + (Lib.decDigits t).length) ([] ++ Lib.byteCells (Lib.decDigits t)) ∧ Below W.heap.size W W' ∧ Lib.OthersKept 5 none W W') → ∃ v, e = .returned v ∧ GrowB W' W.heap.size v (decs t) ∧ Below W.heap.size W W' := by
      rintro e W' ⟨v, rfl, ho, hb, _⟩
      rw [Nat.zero_add, List.nil_append, ← hlen, ← hmap] at ho
      exact ⟨v, rfl, ⟨okB_of (decs_byte t), ho⟩, hb⟩
    rcases Nat.lt_or_ge t 100 with h1 | h1
    · exact (Tryd.internal_strconv_AppendUint_10_small W.heap.size 0 t h1 _ [] W hown (Nat.le_refl _) (by omega)).mono key
    · exact (Tryd.internal_strconv_AppendUint_10_big W.heap.size 0 t h1 h9 _ [] W hown (Nat.le_refl _) (by omega) hT).mono key
  have H := Lib.hid hin
  clear hin hT htab
  go_enter Tryd.func105, Tryd.ntmps105
  go_wp2_with fail
  refine H.out.mono ?_
  rintro e W' ⟨v, rfl, hg, hb⟩
  go_wp2_with fail
  go_ret
  exact ⟨v, rfl, hg, hb⟩
theorem top9_bounds (x : Nat) (h : 0 < x) : 0 < top9 x ∧ top9 x < 1000000000 := by
  induction x using Nat.strongRecOn with
  | ind x ih =>
    rcases Nat.lt_or_ge x 1000000000 with h1 | h1
    · rw [top9_small h1]; exact ⟨h, h1⟩
    · rw [top9_big h1]; exact ih (x / 1000000000) (by omega) (by omega)
set_option maxRecDepth 100000 in
theorem format_any {A : Option Addr} {n c x : Nat} {ds : List Nat} {w : World} (hx : Raw w (.slice A n c) ds) (hvx : Hid (val ds = x)) (hl : ds.length ≤ 1000) (htab : Lib.TabIs Tryd.prog w "internal/strconv.uint64pow10" .u64 Lib.pow10Tab) :
    Calls Tryd.prog 40 #[.slice A n c] w fun e w' => e = .returned (.string (strB (decT x))) ∧ Below w.heap.size w w' := by
  rcases Nat.eq_zero_or_pos x with rfl | h0
  · have hd : strB (decT 0) = ⟨#[48]⟩ := rfl
    rw [hd]
    clear htab hd
    go_enter Tryd.func40, Tryd.ntmps40
    go_wp2_with fail
    refine (norm_is hx hvx).mono ?_
    rintro e w1 ⟨v, rfl, hg, hb⟩
    obtain ⟨B, d, rfl⟩ := hg.form
    rw [digs_zero]
    clear hg
    go_wp2_with fail
    refine wp_loop_rounds 1 ?_
    rw [rounds_succ]
    go_wp2_with fail
    go_ret
    exact ⟨rfl, hb⟩
  · have hd : decT x = decs x := by unfold decT; rw [if_neg (by omega)]
    rw [hd]
    obtain ⟨h1, h2⟩ := top9_bounds x h0
    exact format_pos hx hvx h0 (appOk_any h1 (by omega) htab) hl
theorem decs_dig (x : Nat) : ∀ b ∈ decs x, Dig b := by
  induction x using Nat.strongRecOn with
  | ind x ih =>
    rcases Nat.eq_zero_or_pos x with h | h
    · subst h; rw [decs_zero]; exact fun _ h => by cases h
    · rw [decs_pos h]
      intro b hb
      rcases List.mem_append.1 hb with hb | hb
      · exact ih (x / 10) (by omega) b hb
      · rw [List.mem_singleton] at hb; rw [hb]; exact ⟨by omega, by omega⟩
theorem decN_decs (x : Nat) : decN (decs x) = x := by
  induction x using Nat.strongRecOn with
  | ind x ih =>
    rcases Nat.eq_zero_or_pos x with h | h
    · subst h; rw [decs_zero]; rfl
    · rw [decs_pos h, decN_snoc, ih (x / 10) (by omega)]; omega
theorem decT_dig (x : Nat) : ∀ b ∈ decT x, Dig b := by
  unfold decT; split
  · intro b hb; rw [List.mem_singleton] at hb; rw [hb]; exact ⟨by omega, by omega⟩
  · exact decs_dig x
theorem decT_ne (x : Nat) : decT x ≠ [] := by
  unfold decT; split
  · simp
  · rw [decs_pos (by omega)]; simp
theorem decN_decT (x : Nat) : decN (decT x) = x := by
  unfold decT; split
  · rename_i h; subst h; rfl
  · exact decN_decs x
theorem decT_ok (x : Nat) : OkB (decT x) := fun b hb => by
  obtain ⟨_, h⟩ := decT_dig x b hb; omega
theorem decT_len {x L : Nat} (h : x < Bs L) : (decT x).length ≤ 10 * L + 1 := by
  unfold decT; split
  · simp
  · exact Nat.le_trans (decs_length (10 * L) x (Nat.lt_of_lt_of_le h (Bs_ten L))) (by omega)
set_option maxRecDepth 100000 in
theorem smalla_yes {A : Option Addr} {n c g m : Nat} {w : World} (hc : w.cell? ⟨g, 0, none⟩ = some (.slice A n c)) (hn : n ≤ m) :
    Calls Tryd.prog 14 #[.int .i64 (m : Int), .slice (some ⟨g, 0, none⟩) 1 1] w fun e w' => e = .returned (.bool true) ∧ w = w' := by
  have h1 : ¬ m < n := by omega
  go_enter Tryd.func14, Tryd.ntmps14
  go_wp2_with fail
  refine wp_loop_rounds 2 ?_
  rw [rounds_succ]
  go_wp2_with fail
  rw [rounds_succ]
  go_wp2_with fail
  go_ret
  exact ⟨rfl, rfl⟩
set_option maxRecDepth 100000 in
theorem smalla_no {A : Option Addr} {n c g m : Nat} {w : World} (hc : w.cell? ⟨g, 0, none⟩ = some (.slice A n c)) (hn : m < n) :
    Calls Tryd.prog 14 #[.int .i64 (m : Int), .slice (some ⟨g, 0, none⟩) 1 1] w fun e w' => e = .returned (.bool false) ∧ w = w' := by
  go_enter Tryd.func14, Tryd.ntmps14
  go_wp2_with fail
  refine wp_loop_rounds 1 ?_
  rw [rounds_succ]
  go_wp2_with fail
  go_ret
  exact ⟨rfl, rfl⟩
end Go.Proofs.YtacfdcfkfjildaaDoor
namespace Go.Proofs.YtacfdcfkfjildaaDoor
open Go.RowKit

theorem strB_head (b : Nat) (t : List Nat) : (strB (b :: t)).extract 0 1 = strB [b] := by
  apply ByteArray.ext
  apply Array.toList_inj.1
  rw [Lib.extract_data]
  simp [strB]
theorem strB_tail (b : Nat) (t : List Nat) : (strB (b :: t)).extract 1 (t.length + 1) = strB t := by
  have h := strB_extract (b :: t) 1
  rwa [List.length_cons] at h
set_option maxRecDepth 100000 in
theorem hasprefix_yes {s : ByteArray} {n : Nat} (hs : s.size = n + 1) (he : s.extract 0 1 = ⟨#[45]⟩) (w : World) :
    Calls Tryd.prog 127 #[.string s, .string ⟨#[45]⟩] w fun e w' => e = .returned (.bool true) ∧ w = w' := by
  have h1 : (1 : Int) ≤ (n : Int) + 1 := by omega
  go_enter Tryd.func127, Tryd.ntmps127
  go_wp2_with fail
  go_ret
  exact ⟨rfl, rfl⟩
set_option maxRecDepth 100000 in
theorem hasprefix_no {s : ByteArray} {n b : Nat} (hs : s.size = n + 1) (he : s.extract 0 1 = strB [b]) (hb : b < 256) (hn : b ≠ 45) (w : World) :
    Calls Tryd.prog 127 #[.string s, .string ⟨#[45]⟩] w fun e w' => e = .returned (.bool false) ∧ w = w' := by
  have h1 : (1 : Int) ≤ (n : Int) + 1 := by omega
  have hq : ((strB [b]).toList == [45]) = false := by
    rw [strB_list]
    rw [beq_eq_false_iff_ne]
    intro h
    simp only [List.map_cons, List.map_nil, List.cons.injEq, and_true] at h
    have h2 := congrArg UInt8.toNat h
    rw [UInt8.toNat_ofNat_of_lt' (show b < UInt8.size from hb)] at h2
    exact hn h2
  go_enter Tryd.func127, Tryd.ntmps127
  go_wp2_with fail
  go_ret
  exact ⟨rfl, rfl⟩
set_option maxRecDepth 100000 in
theorem hasprefix_none (w : World) :
    Calls Tryd.prog 127 #[.string ⟨#[]⟩, .string ⟨#[45]⟩] w fun e w' => e = .returned (.bool false) ∧ w = w' := by
  have h0 : (⟨#[]⟩ : ByteArray).size = 0 := rfl
  go_enter Tryd.func127, Tryd.ntmps127
  go_wp2_with fail
  go_ret
  exact ⟨rfl, rfl⟩
/-- The sign and the digits. -/
def splitM : List Nat → Bool × List Nat
  | [] => (false, [])
  | b :: t => if b = 45 then (true, t) else (false, b :: t)
theorem splitM_cons (b : Nat) (t : List Nat) : splitM (b :: t) = if b = 45 then (true, t) else (false, b :: t) := rfl
set_option maxRecDepth 100000 in
theorem cutlite_v {bs : List Nat} (hb : OkB bs) (hl : bs.length ≤ 1000000) (w : World) :
    Calls Tryd.prog 122 #[.string (strB bs), .string ⟨#[45]⟩] w fun e w' => e = .returned (.tuple #[.string (strB (splitM bs).2), .bool (splitM bs).1]) ∧ w = w' := by
  rcases bs with _ | ⟨b, t⟩
  · have hs : strB [] = ⟨#[]⟩ := rfl
    have hsp : splitM [] = (false, []) := rfl
    rw [hsp, hs]
    go_enter Tryd.func122, Tryd.ntmps122
    go_wp2_with fail
    refine (hasprefix_none w).mono ?_
    rintro e w' ⟨rfl, rfl⟩
    go_wp2_with fail
    go_ret2
    exact ⟨rfl, rfl⟩
  · have hsz := strB_size (b :: t)
    rw [List.length_cons] at hsz hl
    have hh := strB_head b t
    have htl := strB_tail b t
    by_cases h45 : b = 45
    · subst h45
      have hsp : splitM (45 :: t) = (true, t) := by rw [splitM_cons, if_pos rfl]
      have hp := hasprefix_yes hsz hh w
      rw [hsp]
      have h1 : (1 : Int) ≤ (t.length : Int) + 1 := by omega
      have HP := Lib.hid hp
      obtain ⟨s, hs⟩ : ∃ s, strB (45 :: t) = s := ⟨_, rfl⟩
      obtain ⟨s2, hs2⟩ : ∃ s, strB t = s := ⟨_, rfl⟩
      rw [hs] at hsz htl HP ⊢
      rw [hs2] at htl ⊢
      clear hp hh hs hs2 hb
      go_enter Tryd.func122, Tryd.ntmps122
      go_wp2_with fail
      refine HP.out.mono ?_
      rintro e w' ⟨rfl, rfl⟩
      go_wp2_with fail
      go_ret2
      exact ⟨rfl, rfl⟩
    · have hsp : splitM (b :: t) = (false, b :: t) := by rw [splitM_cons, if_neg h45]
      have hp := hasprefix_no hsz hh (okB_cons.1 hb).1 h45 w
      rw [hsp]
      have HP := Lib.hid hp
      clear hp hh htl hb
      go_enter Tryd.func122, Tryd.ntmps122
      go_wp2_with fail
      refine HP.out.mono ?_
      rintro e w' ⟨rfl, rfl⟩
      go_wp2_with fail
      go_ret2
      exact ⟨rfl, rfl⟩
set_option maxRecDepth 100000 in
theorem cutprefix_v {bs : List Nat} (hb : OkB bs) (hl : bs.length ≤ 1000000) (w : World) :
    Calls Tryd.prog 112 #[.string (strB bs), .string ⟨#[45]⟩] w fun e w' => e = .returned (.tuple #[.string (strB (splitM bs).2), .bool (splitM bs).1]) ∧ w = w' := by
  have H := Lib.hid (cutlite_v hb hl w)
  go_enter Tryd.func112, Tryd.ntmps112
  go_wp2_with fail
  refine H.out.mono ?_
  rintro e w' ⟨rfl, rfl⟩
  go_wp2_with fail
  go_ret2
  exact ⟨rfl, rfl⟩
theorem split_ok {bs : List Nat} (hb : OkB bs) : OkB (splitM bs).2 := by
  rcases bs with _ | ⟨b, t⟩
  · exact okB_nil
  · rw [splitM_cons]; split
    · exact (okB_cons.1 hb).2
    · exact hb
theorem split_len (bs : List Nat) : (splitM bs).2.length ≤ bs.length := by
  rcases bs with _ | ⟨b, t⟩
  · exact Nat.le_refl _
  · rw [splitM_cons]; split
    · simp
    · exact Nat.le_refl _
theorem split_dig {bs : List Nat} (h : ∀ b ∈ bs, Dig b) : splitM bs = (false, bs) := by
  rcases bs with _ | ⟨b, t⟩
  · rfl
  · rw [splitM_cons, if_neg]
    intro e
    have h1 := (h b (List.mem_cons_self ..)).1
    omega
end Go.Proofs.YtacfdcfkfjildaaDoor
namespace Go.Proofs.YtacfdcfkfjildaaDoor
open Go.RowKit

theorem fmt_v {A : Option Addr} {n c x L : Nat} {w : World} (hx : RV w (.slice A n c) x L) (hL : L ≤ 1000) (htab : Lib.TabIs Tryd.prog w "internal/strconv.uint64pow10" .u64 Lib.pow10Tab) :
    Calls Tryd.prog 40 #[.slice A n c] w fun e w' => e = .returned (.string (strB (decT x))) ∧ Below w.heap.size w w' := by
  obtain ⟨ds, h1, h2, h3⟩ := hx
  exact format_any h1 (Lib.hid h2) (by omega) htab
theorem parse_v {bs : List Nat} {w : World} {L : Nat} (hb : OkB bs) (hd : ∀ b ∈ bs, Dig b) (hne : bs ≠ []) (hl : bs.length ≤ L) (hL : L ≤ 4096) :
    Calls Tryd.prog 37 #[.string (strB bs)] w fun e w' => ∃ A n c, e = .returned (.tuple #[.slice A n c, .nilIface]) ∧ NV w' (.slice A n c) (decN bs) L ∧ Below w.heap.size w w' := by
  refine (parse_yes hb hd hne (by omega)).mono ?_
  rintro e w' ⟨A, n, c, rfl, hN, hbl⟩
  have h1 := dec_len hd bs.length
  rw [List.take_length] at h1
  exact ⟨A, n, c, rfl, ⟨hN, lt_of_digs_length (Nat.le_trans h1 hl)⟩, hbl⟩
theorem readn_v {bs : List Nat} {w : World} {L : Nat} (hb : OkB bs) (hd : ∀ b ∈ bs, Dig b) (hne : bs ≠ []) (hl : bs.length ≤ L) (hL : L ≤ 4096) :
    Calls Tryd.prog 38 #[.string (strB bs)] w fun e w' => ∃ A n c, e = .returned (.tuple #[.slice A n c, .int .i64 0]) ∧ NV w' (.slice A n c) (decN bs) L ∧ Below w.heap.size w w' := by
  refine (readn_yes hb hd hne (by omega)).mono ?_
  rintro e w' ⟨A, n, c, rfl, hN, hbl⟩
  have h1 := dec_len hd bs.length
  rw [List.take_length] at h1
  exact ⟨A, n, c, rfl, ⟨hN, lt_of_digs_length (Nat.le_trans h1 hl)⟩, hbl⟩
theorem text_v {A : Option Addr} {n c x L : Nat} {w : World} (hX : NV w (.slice A n c) x L) (hL : L ≤ 1000) :
    Calls Tryd.prog 41 #[.slice A n c] w fun e w' => e = .returned (.string (strB (decT x))) ∧ Below w.heap.size w w' :=
  text_any hX.1 (by rw [(Raw.cap hX.1).1]; exact Nat.le_trans (digs_length_le hX.2) hL)
theorem back_v {x : Nat} {w : World} {L : Nat} (hx : x < Bs L) (hL : 10 * L + 1 ≤ 4096) :
    Calls Tryd.prog 37 #[.string (strB (decT x))] w fun e w' => ∃ A n c, e = .returned (.tuple #[.slice A n c, .nilIface]) ∧ NV w' (.slice A n c) x (10 * L + 1) ∧ Below w.heap.size w w' := by
  have h := parse_v (w := w) (decT_ok x) (decT_dig x) (decT_ne x) (decT_len hx) hL
  rwa [decN_decT] at h

end Go.Proofs.YtacfdcfkfjildaaDoor
namespace Go.Proofs.YtacfdcfkfjildaaDoor
open Go.RowKit

theorem ret_int_e {fn : Func} {p q : Tmp} (h : fn.results = #[.cell p 64, .tmp q]) {tmps : Array Value} {w : World} {g : Nat} {a b : Value} {t : TypeId} (hp : tmps.getD p undef = .pointer (some ⟨g, 0, none⟩)) (hb : Box w g #[a, b] t) :
    (results fn tmps).run Tryd.prog w = .ok (.tuple #[.agg #[a, b], tmps.getD q undef]) w := by
  have hp' : tmps[p]?.getD undef = .pointer (some ⟨g, 0, none⟩) := by simpa using hp
  have h1 := run_loadVar_row (P := Tryd.prog) w g t 64 #[a, b] (0, 0) _ hb Tryd.underlying64 rfl info_int
  simp [results, h, hp', asAddr, h1]
theorem ret_intN_e {fn : Func} {p q : Tmp} (h : fn.results = #[.cell p 66, .tmp q]) {tmps : Array Value} {w : World} {g : Nat} {a b : Value} {t : TypeId} (hp : tmps.getD p undef = .pointer (some ⟨g, 0, none⟩)) (hb : Box w g #[a, b] t) :
    (results fn tmps).run Tryd.prog w = .ok (.tuple #[.agg #[a, b], tmps.getD q undef]) w := by
  have hp' : tmps[p]?.getD undef = .pointer (some ⟨g, 0, none⟩) := by simpa using hp
  have h1 := run_loadVar_row (P := Tryd.prog) w g t 66 #[a, b] (0, 0) _ hb Tryd.underlying66 rfl info_intN
  simp [results, h, hp', asAddr, h1]

section
variable {bs : List Nat} {L : Nat} {w : World}
set_option maxRecDepth 100000 in
theorem iparse_yes (hb : OkB bs) (hd : ∀ b ∈ (splitM bs).2, Dig b) (hne : (splitM bs).2 ≠ []) (hl : bs.length ≤ L) (hL : L ≤ 4096) :
    Calls Tryd.prog 71 #[.string (strB bs)] w fun e w' => ∃ t B k d, e = .returned (.tuple #[.agg #[.bool t, .slice B k d], .nilIface]) ∧ NI w' t (.slice B k d) (sg (splitM bs).1 (decN (splitM bs).2)) L ∧ Below w.heap.size w w' := by
  have HC := Lib.hid (fun W => cutprefix_v hb (by omega) W)
  have hl2 := split_len bs
  have HP := Lib.hid (fun W => parse_v (w := W) (L := L) (split_ok hb) hd hne (by omega) hL)
  generalize (splitM bs).1 = s at *
  generalize (splitM bs).2 = ds at *
  clear hb hd hne hl2
  go_enter Tryd.func71, Tryd.ntmps71
  go_wp2_with fail
  obtain ⟨W, hW, b0, hbW, hsW⟩ := boxes1 w #[.bool false, .slice none 0 0] 64
  rw [hW]
  clear hW
  refine (HC.out W).mono ?_
  rintro e w' ⟨rfl, rfl⟩
  go_wp2_with fail
  refine (HP.out W).mono ?_
  rintro e w1 ⟨B, k, d, rfl, hN, hb1⟩
  have q0 := b0.below hb1
  go_wp2_with fail
  refine (signed_v s hN rfl).mono ?_
  rintro e w2 ⟨t, rfl, hI, hb2⟩
  have p0 := q0.below hb2
  have r0 := p0.cell 0 _ rfl
  have r1 := p0.cell 1 _ rfl
  have f0 := p0.frozen 0
  have f1 := p0.frozen 1
  have hbT := hbW.trans ((hb1.trans (hb2.mono hb1.size)).mono hbW.size)
  have hF := hI.stored p0 (notInt_box _ _ _ _) (.bool t) (.slice B k d)
  have hbf := below_stored (g := w.heap.size) hbT (by omega) (.bool t) (.slice B k d)
  have hbx := p0.stored (.bool t) (.slice B k d)
  clear b0 q0 hI hN
  go_wp2_with fail
  refine bodyPost_ret (ret_int_e rfl rfl hbx) rfl ?_
  exact ⟨t, B, k, d, rfl, hF, hbf⟩
set_option maxRecDepth 100000 in
theorem iparse_no {a : Addr} (hb : OkB bs) (hl : bs.length ≤ 4096) (hn : ¬ ((∀ b ∈ (splitM bs).2, Dig b) ∧ (splitM bs).2 ≠ [])) (hE : w.cell? ⟨0, 0, none⟩ = some (.iface 172 (.pointer (some a)))) :
    Calls Tryd.prog 71 #[.string (strB bs)] w fun e w' => e = .returned (.tuple #[.agg #[.bool false, .slice none 0 0], .iface 172 (.pointer (some a))]) ∧ Below w.heap.size w w' := by
  have HC := Lib.hid (fun W => cutprefix_v hb (by omega) W)
  have hl2 := split_len bs
  have hblk := World.block_lt_of_cell? _ _ hE
  have HP := Lib.hid (fun W (hb1 : Below w.heap.size w W) => parse_no (w := W) (a := a) (split_ok hb) (by omega) hn ((hb1.cell (p := ⟨0, 0, none⟩) hblk).trans hE))
  generalize (splitM bs).1 = s at *
  generalize (splitM bs).2 = ds at *
  clear hb hn hl2 hE
  go_enter Tryd.func71, Tryd.ntmps71
  go_wp2_with fail
  obtain ⟨W, hW, b0, hbW, hsW⟩ := boxes1 w #[.bool false, .slice none 0 0] 64
  rw [hW]
  clear hW
  refine (HC.out W).mono ?_
  rintro e w' ⟨rfl, rfl⟩
  go_wp2_with fail
  refine (HP.out W hbW).mono ?_
  rintro e w2 ⟨rfl, hb2⟩
  have p0 := b0.below hb2
  have r0 := p0.cell 0 _ rfl
  have r1 := p0.cell 1 _ rfl
  have f0 := p0.frozen 0
  have f1 := p0.frozen 1
  have hbT := hbW.trans (hb2.mono hbW.size)
  have hbf := below_stored (g := w.heap.size) hbT (by omega) (.bool false) (.slice none 0 0)
  have hbx := p0.stored (.bool false) (.slice none 0 0)
  clear b0
  go_wp2_with fail
  refine bodyPost_ret (ret_int_e rfl rfl hbx) rfl ?_
  exact ⟨rfl, hbf⟩
end
end Go.Proofs.YtacfdcfkfjildaaDoor
namespace Go.Proofs.YtacfdcfkfjildaaDoor
open Go.RowKit

section
variable {bs : List Nat} {L : Nat} {w : World}
set_option maxRecDepth 100000 in
theorem readI_gen {kk v : Nat} (hb : OkB bs) (hl : bs.length ≤ 4096)
    (H : ∀ W : World, Below w.heap.size w W → Calls Tryd.prog 38 #[.string (strB (splitM bs).2)] W fun e w' => ∃ A n c, e = .returned (.tuple #[.slice A n c, .int .i64 (kk : Int)]) ∧ NV w' (.slice A n c) v L ∧ Below W.heap.size W w') :
    Calls Tryd.prog 72 #[.string (strB bs)] w fun e w' => ∃ t B k d, e = .returned (.tuple #[.agg #[.bool t, .slice B k d], .int .i64 (kk : Int)]) ∧ NI w' t (.slice B k d) (sg (splitM bs).1 v) L ∧ Below w.heap.size w w' := by
  rcases bs with _ | ⟨b, t⟩
  · have hs : strB [] = ⟨#[]⟩ := rfl
    have hsp : splitM [] = (false, []) := rfl
    rw [hsp] at H ⊢
    simp only at H ⊢
    rw [hs] at H ⊢
    have HH := Lib.hid H
    clear H hsp hs
    go_enter Tryd.func72, Tryd.ntmps72
    go_wp2_with fail
    obtain ⟨W, hW, b0, hbW, hsW⟩ := boxes1 w #[.bool false, .slice none 0 0] 66
    rw [hW]
    clear hW
    refine (HH.out W hbW).mono ?_
    rintro e w1 ⟨B, k, d, rfl, hN, hb1⟩
    have q0 := b0.below hb1
    go_wp2_with fail
    refine (nmake_v _ hN rfl).mono ?_
    rintro e w2 ⟨t, rfl, hI, hb2⟩
    have p0 := q0.below hb2
    have r0 := p0.cell 0 _ rfl
    have r1 := p0.cell 1 _ rfl
    have f0 := p0.frozen 0
    have f1 := p0.frozen 1
    have hbT := hbW.trans ((hb1.trans (hb2.mono hb1.size)).mono hbW.size)
    have hF := hI.stored p0 (notInt_box _ _ _ _) (.bool t) (.slice B k d)
    have hbf := below_stored (g := w.heap.size) hbT (by omega) (.bool t) (.slice B k d)
    have hbx := p0.stored (.bool t) (.slice B k d)
    clear b0 q0 hI hN
    go_wp2_with fail
    refine bodyPost_ret (ret_intN_e rfl rfl hbx) rfl ?_
    exact ⟨t, B, k, d, rfl, hF, hbf⟩
  · have hsz := strB_size (b :: t)
    rw [List.length_cons] at hsz hl
    have htl := strB_tail b t
    have hix : ∀ h : 0 < (strB (b :: t)).size, ((strB (b :: t))[0]'h).toNat = b := fun h => by rw [strB_at hb h]; rfl
    have hemp : (strB (b :: t)).toList.isEmpty = false := by rw [strB_list]; rfl
    have h1 : (1 : Int) ≤ (t.length : Int) + 1 := by omega
    by_cases h45 : b = 45
    · subst h45
      have hsp : splitM (45 :: t) = (true, t) := by rw [splitM_cons, if_pos rfl]
      rw [hsp] at H ⊢
      simp only at H ⊢
      obtain ⟨s, hs⟩ : ∃ s, strB (45 :: t) = s := ⟨_, rfl⟩
      obtain ⟨s2, hs2⟩ : ∃ s, strB t = s := ⟨_, rfl⟩
      rw [hs] at hsz htl hix hemp ⊢
      rw [hs2] at htl H
      have HH := Lib.hid H
      clear H hsp hs hs2 hb
      go_enter Tryd.func72, Tryd.ntmps72
      go_wp2_with fail
      obtain ⟨W, hW, b0, hbW, hsW⟩ := boxes1 w #[.bool false, .slice none 0 0] 66
      rw [hW]
      clear hW
      refine (HH.out W hbW).mono ?_
      rintro e w1 ⟨B, k, d, rfl, hN, hb1⟩
      have q0 := b0.below hb1
      go_wp2_with fail
      refine (nmake_v _ hN rfl).mono ?_
      rintro e w2 ⟨t, rfl, hI, hb2⟩
      have p0 := q0.below hb2
      have r0 := p0.cell 0 _ rfl
      have r1 := p0.cell 1 _ rfl
      have f0 := p0.frozen 0
      have f1 := p0.frozen 1
      have hbT := hbW.trans ((hb1.trans (hb2.mono hb1.size)).mono hbW.size)
      have hF := hI.stored p0 (notInt_box _ _ _ _) (.bool t) (.slice B k d)
      have hbf := below_stored (g := w.heap.size) hbT (by omega) (.bool t) (.slice B k d)
      have hbx := p0.stored (.bool t) (.slice B k d)
      clear b0 q0 hI hN
      go_wp2_with fail
      refine bodyPost_ret (ret_intN_e rfl rfl hbx) rfl ?_
      exact ⟨t, B, k, d, rfl, hF, hbf⟩
    · have hsp : splitM (b :: t) = (false, b :: t) := by rw [splitM_cons, if_neg h45]
      rw [hsp] at H ⊢
      simp only at H ⊢
      have hb45 : ((b : Int) == 45) = false := by rw [beq_eq_false_iff_ne]; omega
      have hb45' : ¬ (b : Int) = 45 := by omega
      obtain ⟨s, hs⟩ : ∃ s, strB (b :: t) = s := ⟨_, rfl⟩
      rw [hs] at hsz hix hemp H ⊢
      have HH := Lib.hid H
      clear H hsp hs hb htl
      go_enter Tryd.func72, Tryd.ntmps72
      go_wp2_with fail
      obtain ⟨W, hW, b0, hbW, hsW⟩ := boxes1 w #[.bool false, .slice none 0 0] 66
      rw [hW]
      clear hW
      refine (HH.out W hbW).mono ?_
      rintro e w1 ⟨B, k, d, rfl, hN, hb1⟩
      have q0 := b0.below hb1
      go_wp2_with fail
      refine (nmake_v _ hN rfl).mono ?_
      rintro e w2 ⟨t, rfl, hI, hb2⟩
      have p0 := q0.below hb2
      have r0 := p0.cell 0 _ rfl
      have r1 := p0.cell 1 _ rfl
      have f0 := p0.frozen 0
      have f1 := p0.frozen 1
      have hbT := hbW.trans ((hb1.trans (hb2.mono hb1.size)).mono hbW.size)
      have hF := hI.stored p0 (notInt_box _ _ _ _) (.bool t) (.slice B k d)
      have hbf := below_stored (g := w.heap.size) hbT (by omega) (.bool t) (.slice B k d)
      have hbx := p0.stored (.bool t) (.slice B k d)
      clear b0 q0 hI hN
      go_wp2_with fail
      refine bodyPost_ret (ret_intN_e rfl rfl hbx) rfl ?_
      exact ⟨t, B, k, d, rfl, hF, hbf⟩
end
/-- The text of an integer. -/
def itoaB (z : Int) : List Nat := (if z < 0 then [45] else []) ++ decT z.natAbs
section
variable {A : Option Addr} {n c L : Nat} {s : Bool} {z : Int} {w : World}
set_option maxRecDepth 100000 in
theorem iformat_v (h : RI w s (.slice A n c) z L) (hL : L ≤ 100) (htab : Lib.TabIs Tryd.prog w "internal/strconv.uint64pow10" .u64 Lib.pow10Tab) :
    Calls Tryd.prog 73 #[.agg #[.bool s, .slice A n c]] w fun e w' => e = .returned (.string (strB (itoaB z))) ∧ Below w.heap.size w w' := by
  have H := fun W (hbW : Below w.heap.size w W) => fmt_v (h.below hbW).rv (by omega) (Go.Joins.tab_stays (show Tryd.prog.globalNamed "internal/strconv.uint64pow10" = some 3 by kernel_rfl) htab hbW (Nat.le_refl _))
  have HH := Lib.hid H
  have hlen := decT_len h.rv.lt
  have hsz := strB_size (decT z.natAbs)
  have hit : itoaB z = (if z < 0 then [45] else []) ++ decT z.natAbs := rfl
  have hap : (⟨#[45]⟩ : ByteArray) ++ strB (decT z.natAbs) = strB ([45] ++ decT z.natAbs) := strB_append [45] _
  generalize decT z.natAbs = ds at *
  have hsum : ¬ 9223372036854775807 < 1 + (strB ds).size := by rw [hsz]; omega
  have hsum2 : ¬ 9223372036854775807 < (⟨#[45]⟩ : ByteArray).size + (strB ds).size := by
    have : (⟨#[45]⟩ : ByteArray).size = 1 := rfl
    rw [this]; exact hsum
  have HIT := Lib.hid hit
  obtain ⟨k, hk⟩ : ∃ k, z.sign = k := ⟨_, rfl⟩
  have HK := Lib.hid hk
  clear H htab hit hlen
  by_cases hz : z < 0
  · have hk1 : k = -1 := by rw [← hk]; exact Int.sign_eq_neg_one_of_neg hz
    subst hk1
    have HZ := Lib.hid hz
    clear hk hz
    go_enter Tryd.func73, Tryd.ntmps73
    go_wp2_with fail
    obtain ⟨W, hW, b0, hbW, hsW⟩ := boxes1 w #[.bool s, .slice A n c] 64
    rw [hW]
    clear hW
    refine (HH.out W hbW).mono ?_
    rintro e w1 ⟨rfl, hb0⟩
    have hb := hbW.trans (hb0.mono hbW.size)
    have h1 := h.below hb
    have q0 := b0.below hb0
    have a0 := q0.cell 0 _ rfl
    have a1 := q0.cell 1 _ rfl
    go_wp2_with fail
    refine (isign_is h1 HK.out).mono ?_
    rintro e w2 ⟨rfl, hb2⟩
    have hb3 := hb.trans (hb2.mono hb.size)
    go_wp2_with fail
    go_returns
    exact ⟨by rw [HIT.out, if_pos HZ.out]; rfl, hb3⟩
  · have hk1 : ¬ k < 0 := by rcases sign_cases z with h | h | h <;> omega
    have hkd : decide (k < 0) = false := decide_eq_false hk1
    have HZ := Lib.hid hz
    clear hk hz
    go_enter Tryd.func73, Tryd.ntmps73
    go_wp2_with fail
    obtain ⟨W, hW, b0, hbW, hsW⟩ := boxes1 w #[.bool s, .slice A n c] 64
    rw [hW]
    clear hW
    refine (HH.out W hbW).mono ?_
    rintro e w1 ⟨rfl, hb0⟩
    have hb := hbW.trans (hb0.mono hbW.size)
    have h1 := h.below hb
    have q0 := b0.below hb0
    have a0 := q0.cell 0 _ rfl
    have a1 := q0.cell 1 _ rfl
    go_wp2_with fail
    refine (isign_is h1 HK.out).mono ?_
    rintro e w2 ⟨rfl, hb2⟩
    have hb3 := hb.trans (hb2.mono hb.size)
    go_wp2_with fail
    go_returns
    exact ⟨by rw [HIT.out, if_neg (by have := HZ.out; omega)]; rfl, hb3⟩
set_option maxRecDepth 100000 in
theorem nformatI_v (h : NI w s (.slice A n c) z L) (hL : L ≤ 100) :
    Calls Tryd.prog 74 #[.agg #[.bool s, .slice A n c, .slice none 0 0]] w fun e w' => e = .returned (.string (strB (itoaB z))) ∧ Below w.heap.size w w' := by
  have H := fun W (hbW : Below w.heap.size w W) => text_v (h.below hbW).1 (by omega)
  have HH := Lib.hid H
  have hlen := decT_len h.1.2
  have hsz := strB_size (decT z.natAbs)
  have hit : itoaB z = (if z < 0 then [45] else []) ++ decT z.natAbs := rfl
  have hap : (⟨#[45]⟩ : ByteArray) ++ strB (decT z.natAbs) = strB ([45] ++ decT z.natAbs) := strB_append [45] _
  generalize decT z.natAbs = ds at *
  have hsum : ¬ 9223372036854775807 < 1 + (strB ds).size := by rw [hsz]; omega
  have hsum2 : ¬ 9223372036854775807 < (⟨#[45]⟩ : ByteArray).size + (strB ds).size := by
    have : (⟨#[45]⟩ : ByteArray).size = 1 := rfl
    rw [this]; exact hsum
  have HIT := Lib.hid hit
  have hs := h.2
  clear H hit hlen h
  by_cases hz : z < 0
  · have hst : s = true := by rw [hs]; exact decide_eq_true hz
    subst hst
    have HZ := Lib.hid hz
    clear hs hz
    go_enter Tryd.func74, Tryd.ntmps74
    go_wp2_with fail
    obtain ⟨W, hW, b0, hbW, hsW⟩ := boxes1 w #[.bool true, .slice A n c, .slice none 0 0] 100
    rw [hW]
    clear hW
    refine (HH.out W hbW).mono ?_
    rintro e w1 ⟨rfl, hb0⟩
    have hb := hbW.trans (hb0.mono hbW.size)
    have q0 := b0.below hb0
    have a0 := q0.cell 0 _ rfl
    have a2 := q0.cell 2 _ rfl
    go_wp2_with fail
    go_returns
    exact ⟨by rw [HIT.out, if_pos HZ.out]; rfl, hb⟩
  · have hst : s = false := by rw [hs]; exact decide_eq_false hz
    subst hst
    have HZ := Lib.hid hz
    clear hs hz
    go_enter Tryd.func74, Tryd.ntmps74
    go_wp2_with fail
    obtain ⟨W, hW, b0, hbW, hsW⟩ := boxes1 w #[.bool false, .slice A n c, .slice none 0 0] 100
    rw [hW]
    clear hW
    refine (HH.out W hbW).mono ?_
    rintro e w1 ⟨rfl, hb0⟩
    have hb := hbW.trans (hb0.mono hbW.size)
    have q0 := b0.below hb0
    have a0 := q0.cell 0 _ rfl
    have a2 := q0.cell 2 _ rfl
    go_wp2_with fail
    go_returns
    exact ⟨by rw [HIT.out, if_neg (by have := HZ.out; omega)]; rfl, hb⟩
end
end Go.Proofs.YtacfdcfkfjildaaDoor
namespace Go.Proofs.YtacfdcfkfjildaaDoor
open Go.RowKit

theorem Ints.below {w w' : World} {v : Value} (h : Ints w v) (hb : Below w.heap.size w w') : Ints w' v := by
  obtain ⟨A, n, c, e, h1, h2, h3⟩ := h
  refine ⟨A, n, c, e, h1, h2, fun j hj => ?_⟩
  obtain ⟨ad, z, e1, e2, e3⟩ := h3 j hj
  exact ⟨ad, z, e1, Nat.lt_of_lt_of_le e2 hb.size, (hb.cell (p := ad.add j) (by unfold Addr.add; split <;> exact e2)).trans e3⟩
theorem split_itoa (z : Int) : splitM (itoaB z) = (decide (z < 0), decT z.natAbs) := by
  unfold itoaB
  by_cases h : z < 0
  · rw [if_pos h, decide_eq_true h]; rfl
  · rw [if_neg h, decide_eq_false h, List.nil_append]
    have h1 := decT_dig z.natAbs
    have h2 := decT_ne z.natAbs
    revert h1 h2
    rcases decT z.natAbs with _ | ⟨b, t⟩
    · intro _ h2; exact absurd rfl h2
    · intro h1 _
      obtain ⟨h3, _⟩ := h1 b (List.mem_cons_self ..)
      rw [splitM_cons, if_neg (by omega)]
theorem itoa_ok (z : Int) : OkB (itoaB z) := by
  unfold itoaB
  intro b hb
  rcases List.mem_append.1 hb with h | h
  · split at h
    · rw [List.mem_singleton] at h; omega
    · cases h
  · exact decT_ok _ b h
theorem itoa_len {z : Int} {L : Nat} (h : z.natAbs < Bs L) : (itoaB z).length ≤ 10 * L + 2 := by
  unfold itoaB
  have h1 := decT_len h
  rw [List.length_append]
  split <;> simp <;> omega
theorem iback_v {z : Int} {w : World} {L : Nat} (hx : z.natAbs < Bs L) (hL : 10 * L + 2 ≤ 4096) :
    Calls Tryd.prog 71 #[.string (strB (itoaB z))] w fun e w' => ∃ t B k d, e = .returned (.tuple #[.agg #[.bool t, .slice B k d], .nilIface]) ∧ NI w' t (.slice B k d) z (10 * L + 2) ∧ Below w.heap.size w w' := by
  have h := iparse_yes (w := w) (L := 10 * L + 2) (itoa_ok z) (by rw [split_itoa]; exact decT_dig _) (by rw [split_itoa]; exact decT_ne _) (itoa_len hx) hL
  rwa [split_itoa, decN_decT, sg_self] at h
theorem NV_zero (w : World) {L : Nat} : NV w (.slice none 0 0) 0 L := ⟨num_zero _ _, Bs_pos L⟩
theorem readI_yes {bs : List Nat} {w : World} {L : Nat} (hb : OkB bs) (hd : ∀ b ∈ (splitM bs).2, Dig b) (hne : (splitM bs).2 ≠ []) (hl : bs.length ≤ L) (hL : L ≤ 4096) :
    Calls Tryd.prog 72 #[.string (strB bs)] w fun e w' => ∃ t B k d, e = .returned (.tuple #[.agg #[.bool t, .slice B k d], .int .i64 0]) ∧ NI w' t (.slice B k d) (sg (splitM bs).1 (decN (splitM bs).2)) L ∧ Below w.heap.size w w' := by
  have hl2 := split_len bs
  exact readI_gen (kk := 0) hb (by omega) fun W _ => readn_v (split_ok hb) hd hne (by omega) hL
theorem readI_no {bs : List Nat} {w : World} (hb : OkB bs) (hl : bs.length ≤ 4096) (hn : ¬ ((∀ b ∈ (splitM bs).2, Dig b) ∧ (splitM bs).2 ≠ [])) :
    Calls Tryd.prog 72 #[.string (strB bs)] w fun e w' => ∃ t B k d, e = .returned (.tuple #[.agg #[.bool t, .slice B k d], .int .i64 1]) ∧ Below w.heap.size w w' := by
  have hl2 := split_len bs
  refine (readI_gen (kk := 1) (v := 0) (L := 1) hb hl fun W hb => ?_).mono ?_
  · refine (readn_no (split_ok ‹OkB bs›) (by omega) hn).mono ?_
    rintro e w' ⟨rfl, rfl⟩
    exact ⟨none, 0, 0, rfl, NV_zero _, Below.refl _ _⟩
  · rintro e w' ⟨t, B, k, d, rfl, _, h⟩
    exact ⟨t, B, k, d, rfl, h⟩
theorem NI_zero (w : World) : NI w false (.slice none 0 0) 0 1 := ⟨NV_zero w, rfl⟩

set_option maxRecDepth 100000 in
set_option maxHeartbeats 6400000 in
theorem itexts_yes {bs : List Nat} {v : Value} {a0 : Addr} {w : World} (hb : OkB bs) (hbl : bs.length ≤ 200) (HI : Ints w v) (hd : (∀ b ∈ (splitM bs).2, Dig b) ∧ (splitM bs).2 ≠ []) (hS : w.cell? ⟨0, 0, none⟩ = some (.iface 172 (.pointer (some a0)))) (htab : Lib.TabIs Tryd.prog w "internal/strconv.uint64pow10" .u64 Lib.pow10Tab) :
    Calls Tryd.prog 13 #[.string (strB bs), v] w fun e w' => e = .returned (.bool true) ∧ Below w.heap.size w w' := by
  have hsz := strB_size bs
  have h3 : ¬ (200 : Int) < (bs.length : Int) := by omega
  have h3' : ¬ 200 < bs.length := by omega
  have blkS := World.block_lt_of_cell? _ _ hS
  have HS := Lib.hid hS
  have HTL := Lib.hid (fun (W : World) (h : Below w.heap.size w W) => Go.Joins.tab_stays (show Tryd.prog.globalNamed "internal/strconv.uint64pow10" = some 3 by kernel_rfl) htab h (Nat.le_refl _))
  have HLB := Lib.hid hbl
  have HD := Lib.hid hd
  have HB := Lib.hid hb
  clear hS htab hbl hd hb
  obtain ⟨sb, hsb⟩ : ∃ s, strB bs = s := ⟨_, rfl⟩
  have HP := Lib.hid (fun W => iparse_yes (w := W) HB.out HD.out.1 HD.out.2 HLB.out (by omega))
  have HR := Lib.hid (fun W => readI_yes (w := W) HB.out HD.out.1 HD.out.2 HLB.out (by omega))
  obtain ⟨zz, hzz⟩ : ∃ z, sg (splitM bs).1 (decN (splitM bs).2) = z := ⟨_, rfl⟩
  rw [hsb] at hsz HP HR ⊢
  rw [hzz] at HP HR
  clear hsb hzz HD HB HLB
  go_enter Tryd.func13, Tryd.ntmps13
  go_wp2_with fail
  refine (HP.out _).mono ?_
  rintro e w1 ⟨s1, B1, k1, d1, rfl, f1, hb9⟩
  have H0 := hb9
  clear hb9
  go_wp2_with fail
  obtain ⟨W1, hW, b1, hbW, hsW⟩ := boxes1 w1 #[.bool s1, .slice B1 k1 d1] 64
  rw [hW]
  clear hW
  replace f1 := f1.below hbW
  replace H0 := H0.trans (hbW.mono H0.size)
  clear hbW hsW
  refine (HR.out _).mono ?_
  rintro e w2 ⟨s2, B2, k2, d2, rfl, f2, hb9⟩
  replace f1 := f1.below hb9
  replace b1 := b1.below hb9
  replace H0 := H0.trans (hb9.mono H0.size)
  clear hb9
  obtain ⟨W2, hW2, b2, hbW, hsW⟩ := boxes1 w2 #[.bool s2, .slice B2 k2 d2] 66
  replace f1 := f1.below hbW
  replace f2 := f2.below hbW
  replace b1 := b1.below hbW
  replace H0 := H0.trans (hbW.mono H0.size)
  clear hbW hsW
  have c10 := b1.cell 0 _ rfl
  have c11 := b1.cell 1 _ rfl
  have c20 := b2.cell 0 _ rfl
  have c21 := b2.cell 1 _ rfl
  go_wp2_with fail
  refine (same2_v f1 f2 rfl (by omega)).mono ?_
  rintro e VV ⟨rfl, hb9⟩
  replace H0 := H0.trans (hb9.mono H0.size)
  clear hb9 f1 f2 b1 b2 c10 c11 c20 c21 hW2 HP HR
  go_wp2_with fail
  refine (new_any (HI.below H0)).mono ?_
  rintro e w3 ⟨rfl, hT, hb9, hsz3⟩
  have hs0 : w.heap.size ≤ VV.heap.size := H0.size
  replace H0 := H0.trans (hb9.mono H0.size)
  have hlt : VV.heap.size < w3.heap.size := by omega
  clear hb9 hsz3
  go_wp2_with fail
  refine (made_v hT hlt).mono ?_
  rintro e w4 ⟨z, s4, B4, k4, d4, rfl, f4, hT4, hg⟩
  replace H0 := H0.grown hg H0.size (by rintro k hk; injection hk with hk; omega)
  replace f4 := f4.ri (by omega)
  clear hg hT hT4 hlt hs0
  obtain ⟨W4, hW4, b4, hbW, hsW⟩ := boxes1 w4 #[.bool s4, .slice B4 k4 d4] 64
  replace f4 := f4.below hbW
  replace H0 := H0.trans (hbW.mono H0.size)
  clear hbW hsW
  have c40 := b4.cell 0 _ rfl
  have c41 := b4.cell 1 _ rfl
  have HF := Lib.hid (fun W (hb : Below W4.heap.size W4 W) (hb' : Below w.heap.size w W) => iformat_v (f4.below hb) (by omega) (HTL.out W hb'))
  have HK := Lib.hid (fun W => iback_v (w := W) f4.rv.lt (by omega))
  have HG := Lib.hid (fun W (hb : Below W4.heap.size W4 W) => refI_v (f4.below hb))
  have HN := Lib.hid (fun (W : World) (t : Bool) (B : Option Addr) (k d : Nat) (h : NI W t (.slice B k d) z 6) => nformatI_v h (by omega))
  obtain ⟨tx, htx⟩ : ∃ s, strB (itoaB z) = s := ⟨_, rfl⟩
  rw [htx] at HF HK HN
  clear htx HTL
  go_wp2_with fail
  refine (HF.out _ (Below.refl _ _) H0).mono ?_
  rintro e w5 ⟨rfl, hb9⟩
  have H4 := hb9
  replace b4 := b4.below hb9
  replace H0 := H0.trans (hb9.mono H0.size)
  clear hb9 c40 c41 hW4
  go_wp2_with fail
  refine (HK.out _).mono ?_
  rintro e w6 ⟨s6, B6, k6, d6, rfl, f6, hb9⟩
  replace b4 := b4.below hb9
  replace H0 := H0.trans (hb9.mono H0.size)
  replace H4 := H4.trans (hb9.mono H4.size)
  clear hb9 HK
  obtain ⟨W6, hW6, b6, hbW, hsW⟩ := boxes1 w6 #[.bool s6, .slice B6 k6 d6] 64
  replace f6 := f6.below hbW
  replace b4 := b4.below hbW
  replace H0 := H0.trans (hbW.mono H0.size)
  replace H4 := H4.trans (hbW.mono H4.size)
  clear hbW hsW
  have c40 := b4.cell 0 _ rfl
  have c41 := b4.cell 1 _ rfl
  have c60 := b6.cell 0 _ rfl
  have c61 := b6.cell 1 _ rfl
  go_wp2_with fail
  have hD := drawn_below W6
  replace b4 : Box W6.drew _ _ _ := b4
  replace b6 : Box W6.drew _ _ _ := b6
  replace f6 : NI W6.drew _ _ _ _ := f6
  replace H4 : Below W4.heap.size W4 W6.drew := H4.trans (hD.mono H4.size)
  replace H0 : Below w.heap.size w W6.drew := H0.trans (hD.mono H0.size)
  clear hD c40 c41 c60 c61 hW6
  go_region_held3 (fun V => V.cell? ⟨w4.heap.size, 0, none⟩ = some (.bool s4) ∧ V.cell? ⟨w4.heap.size, 1, none⟩ = some (.slice B4 k4 d4) ∧ V.cell? ⟨w6.heap.size, 0, none⟩ = some (.bool s6) ∧ V.cell? ⟨w6.heap.size, 1, none⟩ = some (.slice B6 k6 d6)) (first | exact ⟨(b4).cell 0 _ rfl, (b4).cell 1 _ rfl, (b6).cell 0 _ rfl, (b6).cell 1 _ rfl⟩ | exact K6 | exact K5 | exact K4 | exact K3 | exact K2 | exact K1 | go_keep)
    (first
      | (go_at_call 43; with_reducible refine (known2_any _).mono ?_; rintro e v1 ⟨rfl, hb⟩; have hB1 := hb; have K1 := And.intro ((b4.below hB1).cell 0 _ rfl) (And.intro ((b4.below hB1).cell 1 _ rfl) (And.intro ((b6.below hB1).cell 0 _ rfl) ((b6.below hB1).cell 1 _ rfl))); clear hb)
      | (go_at_call 44; with_reducible refine (HG.out _ (H4.trans (hB1.mono H4.size))).mono ?_; rintro e v2 ⟨t1, B7, k7, d7, rfl, g1, hb⟩; have hB2 := hB1.trans (hb.mono hB1.size); have K2 := And.intro ((b4.below hB2).cell 0 _ rfl) (And.intro ((b4.below hB2).cell 1 _ rfl) (And.intro ((b6.below hB2).cell 0 _ rfl) ((b6.below hB2).cell 1 _ rfl))); clear hb)
      | (go_at_call 49; with_reducible refine (same2_v (f6.below hB2) g1 rfl (by omega)).mono ?_; rintro e v3 ⟨rfl, hb⟩; have hB3 := hB2.trans (hb.mono hB2.size); have g1 := g1.below hb; have K3 := And.intro ((b4.below hB3).cell 0 _ rfl) (And.intro ((b4.below hB3).cell 1 _ rfl) (And.intro ((b6.below hB3).cell 0 _ rfl) ((b6.below hB3).cell 1 _ rfl))); clear hb)
      | (go_at_call 73; with_reducible refine (HF.out _ (H4.trans (hB3.mono H4.size)) (H0.trans (hB3.mono H0.size))).mono ?_; rintro e v4 ⟨rfl, hb⟩; have hB4 := hB3.trans (hb.mono hB3.size); have K4 := And.intro ((b4.below hB4).cell 0 _ rfl) (And.intro ((b4.below hB4).cell 1 _ rfl) (And.intro ((b6.below hB4).cell 0 _ rfl) ((b6.below hB4).cell 1 _ rfl))); clear hb)
      | (go_at_call 44; with_reducible refine (HG.out _ (H4.trans (hB4.mono H4.size))).mono ?_; rintro e v5 ⟨t2, B8, k8, d8, rfl, g2, hb⟩; have hB5 := hB4.trans (hb.mono hB4.size); have K5 := And.intro ((b4.below hB5).cell 0 _ rfl) (And.intro ((b4.below hB5).cell 1 _ rfl) (And.intro ((b6.below hB5).cell 0 _ rfl) ((b6.below hB5).cell 1 _ rfl))); clear hb)
      | (go_at_call 74; with_reducible refine (HN.out _ _ _ _ _ g2).mono ?_; rintro e v6 ⟨rfl, hb⟩; have hB6 := hB5.trans (hb.mono hB5.size); have g2 := g2.below hb; have K6 := And.intro ((b4.below hB6).cell 0 _ rfl) (And.intro ((b4.below hB6).cell 1 _ rfl) (And.intro ((b6.below hB6).cell 0 _ rfl) ((b6.below hB6).cell 1 _ rfl))); clear hb)
    )
  have H9 := H0.trans (hB6.mono H0.size)
  clear hB1 hB2 hB3 hB4 hB5 hB6 K1 K2 K3 K4 K5 K6
  go_wp2_with fail
  go_returns
  exact ⟨rfl, H9⟩
set_option maxRecDepth 100000 in
set_option maxHeartbeats 6400000 in
theorem itexts_no {bs : List Nat} {v : Value} {a0 : Addr} {w : World} (hb : OkB bs) (hbl : bs.length ≤ 200) (HI : Ints w v) (hd : ¬ ((∀ b ∈ (splitM bs).2, Dig b) ∧ (splitM bs).2 ≠ [])) (hS : w.cell? ⟨0, 0, none⟩ = some (.iface 172 (.pointer (some a0)))) (htab : Lib.TabIs Tryd.prog w "internal/strconv.uint64pow10" .u64 Lib.pow10Tab) :
    Calls Tryd.prog 13 #[.string (strB bs), v] w fun e w' => e = .returned (.bool true) ∧ Below w.heap.size w w' := by
  have hsz := strB_size bs
  have h3 : ¬ (200 : Int) < (bs.length : Int) := by omega
  have h3' : ¬ 200 < bs.length := by omega
  have blkS := World.block_lt_of_cell? _ _ hS
  have HS := Lib.hid hS
  have HTL := Lib.hid (fun (W : World) (h : Below w.heap.size w W) => Go.Joins.tab_stays (show Tryd.prog.globalNamed "internal/strconv.uint64pow10" = some 3 by kernel_rfl) htab h (Nat.le_refl _))
  have HLB := Lib.hid hbl
  have HD := Lib.hid hd
  have HB := Lib.hid hb
  clear hS htab hbl hd hb
  obtain ⟨sb, hsb⟩ : ∃ s, strB bs = s := ⟨_, rfl⟩
  have HP := Lib.hid (fun W hE => iparse_no (w := W) (a := a0) HB.out (by have := HLB.out; omega) HD.out hE)
  have HR := Lib.hid (fun W => readI_no (w := W) HB.out (by have := HLB.out; omega) HD.out)
  rw [hsb] at hsz HP HR ⊢
  clear hsb HD HB HLB
  go_enter Tryd.func13, Tryd.ntmps13
  go_wp2_with fail
  refine (HP.out _ HS.out).mono ?_
  rintro e w1 ⟨rfl, hb9⟩
  have H0 := hb9
  clear hb9
  go_wp2_with fail
  obtain ⟨W1, hW, b1, hbW, hsW⟩ := boxes1 w1 #[.bool false, .slice none 0 0] 64
  rw [hW]
  clear hW
  replace H0 := H0.trans (hbW.mono H0.size)
  clear hbW hsW
  refine (HR.out _).mono ?_
  rintro e w2 ⟨s2, B2, k2, d2, rfl, hb9⟩
  replace b1 := b1.below hb9
  replace H0 := H0.trans (hb9.mono H0.size)
  clear hb9
  obtain ⟨W2, hW2, b2, hbW, hsW⟩ := boxes1 w2 #[.bool s2, .slice B2 k2 d2] 66
  replace b1 := b1.below hbW
  replace H0 := H0.trans (hbW.mono H0.size)
  clear hbW hsW
  have c10 := b1.cell 0 _ rfl
  have c11 := b1.cell 1 _ rfl
  have c20 := b2.cell 0 _ rfl
  have c21 := b2.cell 1 _ rfl
  have hS2 := (H0.cell (p := ⟨0, 0, none⟩) blkS).trans HS.out
  go_wp2_with fail
  refine (is_same a0 _).mono ?_
  rintro e w3 ⟨rfl, rfl⟩
  clear hS2
  go_wp2_with fail
  refine (sameI_v (NI_zero _) (NI_zero _) rfl).mono ?_
  rintro e VV ⟨rfl, hb9⟩
  replace H0 := H0.trans (hb9.mono H0.size)
  clear hb9 b1 b2 c10 c11 c20 c21 hW2 HP HR
  go_wp2_with fail
  refine (new_any (HI.below H0)).mono ?_
  rintro e w3 ⟨rfl, hT, hb9, hsz3⟩
  have hs0 : w.heap.size ≤ VV.heap.size := H0.size
  replace H0 := H0.trans (hb9.mono H0.size)
  have hlt : VV.heap.size < w3.heap.size := by omega
  clear hb9 hsz3
  go_wp2_with fail
  refine (made_v hT hlt).mono ?_
  rintro e w4 ⟨z, s4, B4, k4, d4, rfl, f4, hT4, hg⟩
  replace H0 := H0.grown hg H0.size (by rintro k hk; injection hk with hk; omega)
  replace f4 := f4.ri (by omega)
  clear hg hT hT4 hlt hs0
  obtain ⟨W4, hW4, b4, hbW, hsW⟩ := boxes1 w4 #[.bool s4, .slice B4 k4 d4] 64
  replace f4 := f4.below hbW
  replace H0 := H0.trans (hbW.mono H0.size)
  clear hbW hsW
  have c40 := b4.cell 0 _ rfl
  have c41 := b4.cell 1 _ rfl
  have HF := Lib.hid (fun W (hb : Below W4.heap.size W4 W) (hb' : Below w.heap.size w W) => iformat_v (f4.below hb) (by omega) (HTL.out W hb'))
  have HK := Lib.hid (fun W => iback_v (w := W) f4.rv.lt (by omega))
  have HG := Lib.hid (fun W (hb : Below W4.heap.size W4 W) => refI_v (f4.below hb))
  have HN := Lib.hid (fun (W : World) (t : Bool) (B : Option Addr) (k d : Nat) (h : NI W t (.slice B k d) z 6) => nformatI_v h (by omega))
  obtain ⟨tx, htx⟩ : ∃ s, strB (itoaB z) = s := ⟨_, rfl⟩
  rw [htx] at HF HK HN
  clear htx HTL
  go_wp2_with fail
  refine (HF.out _ (Below.refl _ _) H0).mono ?_
  rintro e w5 ⟨rfl, hb9⟩
  have H4 := hb9
  replace b4 := b4.below hb9
  replace H0 := H0.trans (hb9.mono H0.size)
  clear hb9 c40 c41 hW4
  go_wp2_with fail
  refine (HK.out _).mono ?_
  rintro e w6 ⟨s6, B6, k6, d6, rfl, f6, hb9⟩
  replace b4 := b4.below hb9
  replace H0 := H0.trans (hb9.mono H0.size)
  replace H4 := H4.trans (hb9.mono H4.size)
  clear hb9 HK
  obtain ⟨W6, hW6, b6, hbW, hsW⟩ := boxes1 w6 #[.bool s6, .slice B6 k6 d6] 64
  replace f6 := f6.below hbW
  replace b4 := b4.below hbW
  replace H0 := H0.trans (hbW.mono H0.size)
  replace H4 := H4.trans (hbW.mono H4.size)
  clear hbW hsW
  have c40 := b4.cell 0 _ rfl
  have c41 := b4.cell 1 _ rfl
  have c60 := b6.cell 0 _ rfl
  have c61 := b6.cell 1 _ rfl
  go_wp2_with fail
  have hD := drawn_below W6
  replace b4 : Box W6.drew _ _ _ := b4
  replace b6 : Box W6.drew _ _ _ := b6
  replace f6 : NI W6.drew _ _ _ _ := f6
  replace H4 : Below W4.heap.size W4 W6.drew := H4.trans (hD.mono H4.size)
  replace H0 : Below w.heap.size w W6.drew := H0.trans (hD.mono H0.size)
  clear hD c40 c41 c60 c61 hW6
  go_region_held3 (fun V => V.cell? ⟨w4.heap.size, 0, none⟩ = some (.bool s4) ∧ V.cell? ⟨w4.heap.size, 1, none⟩ = some (.slice B4 k4 d4) ∧ V.cell? ⟨w6.heap.size, 0, none⟩ = some (.bool s6) ∧ V.cell? ⟨w6.heap.size, 1, none⟩ = some (.slice B6 k6 d6)) (first | exact ⟨(b4).cell 0 _ rfl, (b4).cell 1 _ rfl, (b6).cell 0 _ rfl, (b6).cell 1 _ rfl⟩ | exact K6 | exact K5 | exact K4 | exact K3 | exact K2 | exact K1 | go_keep)
    (first
      | (go_at_call 43; with_reducible refine (known2_any _).mono ?_; rintro e v1 ⟨rfl, hb⟩; have hB1 := hb; have K1 := And.intro ((b4.below hB1).cell 0 _ rfl) (And.intro ((b4.below hB1).cell 1 _ rfl) (And.intro ((b6.below hB1).cell 0 _ rfl) ((b6.below hB1).cell 1 _ rfl))); clear hb)
      | (go_at_call 44; with_reducible refine (HG.out _ (H4.trans (hB1.mono H4.size))).mono ?_; rintro e v2 ⟨t1, B7, k7, d7, rfl, g1, hb⟩; have hB2 := hB1.trans (hb.mono hB1.size); have K2 := And.intro ((b4.below hB2).cell 0 _ rfl) (And.intro ((b4.below hB2).cell 1 _ rfl) (And.intro ((b6.below hB2).cell 0 _ rfl) ((b6.below hB2).cell 1 _ rfl))); clear hb)
      | (go_at_call 49; with_reducible refine (same2_v (f6.below hB2) g1 rfl (by omega)).mono ?_; rintro e v3 ⟨rfl, hb⟩; have hB3 := hB2.trans (hb.mono hB2.size); have g1 := g1.below hb; have K3 := And.intro ((b4.below hB3).cell 0 _ rfl) (And.intro ((b4.below hB3).cell 1 _ rfl) (And.intro ((b6.below hB3).cell 0 _ rfl) ((b6.below hB3).cell 1 _ rfl))); clear hb)
      | (go_at_call 73; with_reducible refine (HF.out _ (H4.trans (hB3.mono H4.size)) (H0.trans (hB3.mono H0.size))).mono ?_; rintro e v4 ⟨rfl, hb⟩; have hB4 := hB3.trans (hb.mono hB3.size); have K4 := And.intro ((b4.below hB4).cell 0 _ rfl) (And.intro ((b4.below hB4).cell 1 _ rfl) (And.intro ((b6.below hB4).cell 0 _ rfl) ((b6.below hB4).cell 1 _ rfl))); clear hb)
      | (go_at_call 44; with_reducible refine (HG.out _ (H4.trans (hB4.mono H4.size))).mono ?_; rintro e v5 ⟨t2, B8, k8, d8, rfl, g2, hb⟩; have hB5 := hB4.trans (hb.mono hB4.size); have K5 := And.intro ((b4.below hB5).cell 0 _ rfl) (And.intro ((b4.below hB5).cell 1 _ rfl) (And.intro ((b6.below hB5).cell 0 _ rfl) ((b6.below hB5).cell 1 _ rfl))); clear hb)
      | (go_at_call 74; with_reducible refine (HN.out _ _ _ _ _ g2).mono ?_; rintro e v6 ⟨rfl, hb⟩; have hB6 := hB5.trans (hb.mono hB5.size); have g2 := g2.below hb; have K6 := And.intro ((b4.below hB6).cell 0 _ rfl) (And.intro ((b4.below hB6).cell 1 _ rfl) (And.intro ((b6.below hB6).cell 0 _ rfl) ((b6.below hB6).cell 1 _ rfl))); clear hb)
    )
  have H9 := H0.trans (hB6.mono H0.size)
  clear hB1 hB2 hB3 hB4 hB5 hB6 K1 K2 K3 K4 K5 K6
  go_wp2_with fail
  go_returns
  exact ⟨rfl, H9⟩
set_option maxRecDepth 100000 in
theorem integertexts_any {bs : List Nat} {v : Value} {a0 : Addr} {w : World} (hb : OkB bs) (HI : Ints w v) (hS : w.cell? ⟨0, 0, none⟩ = some (.iface 172 (.pointer (some a0)))) (htab : Lib.TabIs Tryd.prog w "internal/strconv.uint64pow10" .u64 Lib.pow10Tab) :
    Calls Tryd.prog 13 #[.string (strB bs), v] w fun e w' => e = .returned (.bool true) ∧ Below w.heap.size w w' := by
  rcases Nat.lt_or_ge 200 bs.length with h2 | h2
  · have hsz := strB_size bs
    have h3 : (200 : Int) < (bs.length : Int) := by omega
    generalize hsb : strB bs = s at *
    clear hsb HI hS htab
    go_enter Tryd.func13, Tryd.ntmps13
    go_wp2_with fail
    refine (known2_any _).mono ?_
    rintro e w1 ⟨rfl, hb1⟩
    go_wp2_with fail
    go_ret
    exact ⟨rfl, hb1⟩
  · rcases Classical.em ((∀ b ∈ (splitM bs).2, Dig b) ∧ (splitM bs).2 ≠ []) with hd | hd
    · exact itexts_yes hb h2 HI hd hS htab
    · exact itexts_no hb h2 HI hd hS htab
end Go.Proofs.YtacfdcfkfjildaaDoor
