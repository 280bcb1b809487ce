/-
  Is, Is2, Is3, Text, AppOk, ParseNo in one text.
-/
import Derived.Test.YtancgkmkbgkncaaGreatDoorK10
import Derived.Test.YtancgkmkbgkncaaGreatDoorChecked
import Derived.LaidEql
import Derived.Stop.Asserts
import Derived.RowKitTokens
import Derived.Deep.QuietTactic
import Derived.BigQuiet
import Derived.Test.YtancgkmkbgkncaaGreatDoorB1
import Derived.Test.YtancgkmkbgkncaaGreatDoorK6
import Derived.Test.YtancgkmkbgkncaaGreatDoorK3
import Derived.Test.YtancgkmkbgkncaaGreatDoorShelf
import Derived.Test.YtancgkmkbgkncaaGreatDoorK2
import Derived.Test.YtancgkmkbgkncaaGreatDoorLaid5
import Derived.LoopN
import Derived.Lib.SmallJoins
import Derived.Lib.LaidTab
namespace Go.Proofs.YtancgkmkbgkncaaGreatDoor
open Go.RowKit Go.Extern.Stop Go.Stop Go.Extern

theorem Tryz.isTypeOf (v : Value) (w : World) : (Extern.ReflectliteType.typeOf #[.iface 195 v]).run Tryz.prog w = .ok (.iface 112 (.agg #[.pointer (some ⟨8, 195, none⟩)])) w := by kernel_rfl
theorem Tryz.isComparable (w : World) : ((Extern.ReflectliteType.method fun t => do Extern.Rtype.noPackHeld "Comparable" t; (fun a => Value.bool a.comparable) <$> typeInfo t) #[.agg #[.pointer (some ⟨8, 195, none⟩)]]).run Tryz.prog w = .ok (.bool true) w := by kernel_rfl
theorem Tryz.isComp : (Tryz.prog.info? 195).map (·.comparable) = some true := by kernel_rfl
theorem Tryz.isSize : (Tryz.prog.info? 220).map (·.size) = some 1 := by kernel_rfl
theorem Tryz.isMethodComparable (v : Value) (w : World) : (Go.method 332 112 v "Comparable").run Tryz.prog w = .ok (169, v) w := by kernel_rfl
set_option maxRecDepth 100000 in
theorem is_same (a : Addr) (w : World) :
    Calls Tryz.prog 12 #[.iface 195 (.pointer (some a)), .iface 195 (.pointer (some a))] w fun e w' => e = .returned (.bool true) ∧ w' = w := by
  obtain ⟨i, hi, hcmp⟩ := Option.map_eq_some_iff.1 Tryz.isComp
  obtain ⟨j, hj, hjs⟩ := Option.map_eq_some_iff.1 Tryz.isSize
  have h8 := @run_callFunc_extern Tryz.prog 29 _ Extern.ReflectliteType.typeOf Tryz.func29 (by kernel_rfl) (by kernel_rfl) (by kernel_rfl) (by kernel_rfl)
  have h32 := @run_callFunc_extern Tryz.prog 169 _ (Extern.ReflectliteType.method fun t => do Extern.Rtype.noPackHeld "Comparable" t; pure (.bool (← typeInfo t).comparable)) Tryz.func169 (by kernel_rfl) (by kernel_rfl) (by kernel_rfl) (by kernel_rfl)
  have tT := Tryz.isTypeOf
  have cT := Tryz.isComparable
  have mR := Tryz.isMethodComparable
  have heq := run_eql_iface_ptr_same (P := Tryz.prog) w a Tryz.underlying36 Tryz.underlying195 hi hcmp hj
  go_enter Tryz.func12, Tryz.ntmps12
  go_wp2
  refine wp_loop_rounds 1 ?_
  rw [rounds_succ]
  go_wp2
  go_ret
  exact ⟨rfl, rfl⟩
end Go.Proofs.YtancgkmkbgkncaaGreatDoor
namespace Go.Proofs.YtancgkmkbgkncaaGreatDoor
open Go.RowKit Go.Extern.Stop Go.Stop Go.Extern

set_option maxRecDepth 100000 in
theorem is_nil (v : Value) (t : TypeId) (w : World) :
    Calls Tryz.prog 12 #[.nilIface, .iface t v] w fun e w' => e = .returned (.bool false) ∧ w' = w := by
  have heq := fun (w : World) => run_eql_iface_nil_left (P := Tryz.prog) w t v Tryz.underlying36
  go_enter Tryz.func12, Tryz.ntmps12
  go_wp2
  go_ret
  exact ⟨rfl, rfl⟩
theorem Tryz.noIsP (v : Value) (x : TypeId) (w : World) : (Instr.typeAssert (.iface 103 v) x 114 true).run Tryz.prog w = .ok (.tuple #[.nilIface, .bool false]) w := run_typeAssert_lacksB Tryz.underlying114 (by kernel_rfl) (by kernel_rfl) v x w
theorem Tryz.unwrapP (v : Value) (x : TypeId) (w : World) : (Instr.typeAssert (.iface 103 v) x 117 true).run Tryz.prog w = .ok (.tuple #[.iface 103 v, .bool true]) w := run_typeAssert_hasB Tryz.underlying117 (by kernel_rfl) v x w
theorem Tryz.methodP (v : Value) (w : World) : (Go.method 332 103 v "Unwrap").run Tryz.prog w = .ok (165, v) w := by kernel_rfl
set_option maxRecDepth 100000 in
theorem is_part (s : ByteArray) (a : Addr) (w : World) :
    Calls Tryz.prog 12 #[.iface 103 (.agg #[.string s, .iface 195 (.pointer (some a))]), .iface 195 (.pointer (some a))] w fun e w' => e = .returned (.bool true) ∧ Below w.heap.size w w' := by
  obtain ⟨i, hi, hcmp⟩ := Option.map_eq_some_iff.1 Tryz.isComp
  obtain ⟨j, hj, hjs⟩ := Option.map_eq_some_iff.1 Tryz.isSize
  have h8 := @run_callFunc_extern Tryz.prog 29 _ Extern.ReflectliteType.typeOf Tryz.func29 (by kernel_rfl) (by kernel_rfl) (by kernel_rfl) (by kernel_rfl)
  have h32 := @run_callFunc_extern Tryz.prog 169 _ (Extern.ReflectliteType.method fun t => do Extern.Rtype.noPackHeld "Comparable" t; pure (.bool (← typeInfo t).comparable)) Tryz.func169 (by kernel_rfl) (by kernel_rfl) (by kernel_rfl) (by kernel_rfl)
  have tT := Tryz.isTypeOf
  have cT := Tryz.isComparable
  have mR := Tryz.isMethodComparable
  have nP := Tryz.noIsP
  have uP := Tryz.unwrapP
  have mP := Tryz.methodP
  have heq := fun (w : World) => run_eql_iface_ptr_same (P := Tryz.prog) w a Tryz.underlying36 Tryz.underlying195 hi hcmp hj
  have hne := fun (vx vy : Value) (w : World) => run_eql_iface_types (P := Tryz.prog) 103 195 vx vy Tryz.underlying36 (by decide) w
  go_enter Tryz.func12, Tryz.ntmps12
  go_wp2
  refine wp_loop_rounds 2 ?_
  rw [rounds_succ]
  go_wp2
  rw [rounds_succ]
  go_wp2
  go_ret
  exact ⟨rfl, below_alloc w _⟩
end Go.Proofs.YtancgkmkbgkncaaGreatDoor
namespace Go.Proofs.YtancgkmkbgkncaaGreatDoor
open Go.RowKit Go.Extern.Stop Go.Stop Go.Extern

theorem Tryz.noIsE (v : Value) (x : TypeId) (w : World) : (Instr.typeAssert (.iface 195 v) x 114 true).run Tryz.prog w = .ok (.tuple #[.nilIface, .bool false]) w := run_typeAssert_lacksB Tryz.underlying114 (by kernel_rfl) (by kernel_rfl) v x w
theorem Tryz.noUnE (v : Value) (x : TypeId) (w : World) : (Instr.typeAssert (.iface 195 v) x 117 true).run Tryz.prog w = .ok (.tuple #[.nilIface, .bool false]) w := run_typeAssert_lacksB Tryz.underlying117 (by kernel_rfl) (by kernel_rfl) v x w
theorem Tryz.noUmE (v : Value) (x : TypeId) (w : World) : (Instr.typeAssert (.iface 195 v) x 119 true).run Tryz.prog w = .ok (.tuple #[.nilIface, .bool false]) w := run_typeAssert_lacksB Tryz.underlying119 (by kernel_rfl) (by kernel_rfl) v x w
set_option maxRecDepth 100000 in
theorem is_part_no (s : ByteArray) {a b : Addr} {ca cb : Array Value} {ta tb : TypeId} (w : World) (hne : b ≠ a) (ha : w.heap[a.block]? = some (.cells ca ta (0, 0))) (hb : w.heap[b.block]? = some (.cells cb tb (0, 0))) :
    Calls Tryz.prog 12 #[.iface 103 (.agg #[.string s, .iface 195 (.pointer (some b))]), .iface 195 (.pointer (some a))] w fun e w' => e = .returned (.bool false) ∧ Below w.heap.size w w' := by
  obtain ⟨i, hi, hcmp⟩ := Option.map_eq_some_iff.1 Tryz.isComp
  obtain ⟨j, hj, hjs⟩ := Option.map_eq_some_iff.1 Tryz.isSize
  have h8 := @run_callFunc_extern Tryz.prog 29 _ Extern.ReflectliteType.typeOf Tryz.func29 (by kernel_rfl) (by kernel_rfl) (by kernel_rfl) (by kernel_rfl)
  have h32 := @run_callFunc_extern Tryz.prog 169 _ (Extern.ReflectliteType.method fun t => do Extern.Rtype.noPackHeld "Comparable" t; pure (.bool (← typeInfo t).comparable)) Tryz.func169 (by kernel_rfl) (by kernel_rfl) (by kernel_rfl) (by kernel_rfl)
  have tT := Tryz.isTypeOf
  have cT := Tryz.isComparable
  have mR := Tryz.isMethodComparable
  have nP := Tryz.noIsP
  have uP := Tryz.unwrapP
  have mP := Tryz.methodP
  have nE := Tryz.noIsE
  have uE := Tryz.noUnE
  have vE := Tryz.noUmE
  have hsz0 : j.size ≠ 0 := by rw [hjs]; decide
  have hbx : Box w b.block cb tb := hb
  have hax : Box w a.block ca ta := ha
  have heq := fun X => run_eql_iface_ptr_other (P := Tryz.prog) (w := w.alloc X) Tryz.underlying36 Tryz.underlying195 hi hcmp hj hsz0 hne (Box.keep hbx (below_alloc w X) (Box.lt hbx)) (Box.keep hax (below_alloc w X) (Box.lt hax))
  clear hbx hax ha hb
  have hny := fun (vx vy : Value) (w : World) => run_eql_iface_types (P := Tryz.prog) 103 195 vx vy Tryz.underlying36 (by decide) w
  go_enter Tryz.func12, Tryz.ntmps12
  go_wp2
  refine wp_loop_rounds 2 ?_
  rw [rounds_succ]
  go_wp2
  rw [rounds_succ]
  go_wp2
  go_ret
  exact ⟨rfl, below_alloc w _⟩
end Go.Proofs.YtancgkmkbgkncaaGreatDoor
namespace Go.Proofs.YtancgkmkbgkncaaGreatDoor
open Go.RowKit

/-- The digits of a number as a text, "0" for 0. -/
def decT (x : Nat) : List Nat := if x = 0 then [48] else decs x
def strLn : Value → Nat
  | .string s => s.size
  | _ => 0
theorem strB_append (a b : List Nat) : strB a ++ strB b = strB (a ++ b) := by
  apply ByteArray.ext
  simp [strB]
theorem convert_one {w : World} {g : Nat} {d : Nat} {z : Int} {t : TypeId} (hz : z = (d : Int)) (h : w.heap[g]? = some (.cells #[.int .u8 z] t (0, 0))) (hd : d < 256) :
    (convert 154 9 (.slice (some ⟨g, 0, none⟩) 1 1)).run Tryz.prog w = .ok (.string (strB [d])) w := by
  subst hz
  have := run_convert_bytes_back (P := Tryz.prog) w 154 9 5 ⟨g, 0, none⟩ 1 [UInt8.ofNat d] Tryz.underlying154 Tryz.underlying5 Tryz.underlying9 (fun j hj => by
    have hj0 : j = 0 := by simpa using hj
    subst hj0
    rw [addr_add_lit, Nat.zero_add, cell_of_row w g 0 _ _ _ h]
    simp [UInt8.toNat_ofNat_of_lt' (show d < UInt8.size from hd)])
  exact this

theorem Bs_ten (k : Nat) : Bs k ≤ 10 ^ (10 * k) := by
  rw [Nat.pow_mul]
  exact Nat.pow_le_pow_left (by decide) k

set_option maxRecDepth 100000 in
set_option maxHeartbeats 3200000 in
theorem text_pos {A : Option Addr} {n c x : Nat} {w : World} (hX : Num w (.slice A n c) x) (hx0 : 0 < x) (hn9 : n ≤ 1000) :
    Calls Tryz.prog 57 #[.slice A n c] w fun e w' => e = .returned (.string (strB (decs x))) ∧ Below w.heap.size w w' := by
  have hnp : 0 < n := by rw [(Raw.cap hX).1]; exact digs_length_pos hx0
  have hn0 : ((n : Int) == 0) = false := by rw [beq_eq_false_iff_ne]; omega
  have hn0' : ¬ n = 0 := by omega
  have HX := Lib.hid hX
  obtain ⟨L, hL⟩ : ∃ L, (decs x).length = L := ⟨_, rfl⟩
  have HL := Lib.hid hL
  have hLb : L ≤ 10000 := by
    rw [← hL]
    exact Nat.le_trans (decs_length (10 * n) x (Nat.lt_of_lt_of_le (lt_of_digs_length (by rw [← (Raw.cap hX).1]; exact Nat.le_refl _)) (Bs_ten n))) (by omega)
  clear hX hL
  go_enter Tryz.func57, Tryz.ntmps57
  go_wp2_with fail
  go_loopw [0, 3] (fun av sv wr => ∃ (y : Nat) (bs : List Nat) (B : Option Addr) (k d : Nat), av = .slice B k d ∧ sv = .string (strB bs) ∧ Num wr (.slice B k d) y ∧ k ≤ 1000 ∧ decs x = decs y ++ bs ∧ Below w.heap.size w wr) (fun _ sv _ => L - strLn sv)
  case atStart => exact ⟨x, [], A, n, c, rfl, rfl, HX.out, hn9, by simp, Below.refl _ _⟩
  case round =>
    obtain ⟨y, bs, B, k, d, rfl, rfl, hN, hk, hdx, hbr⟩ := hrel
    have HDX := Lib.hid hdx
    have HN := Lib.hid hN
    rcases Nat.eq_zero_or_pos y with rfl | hy
    · have hk0 : k = 0 := by have h := (Raw.cap hN).1; rw [digs_zero] at h; exact h
      subst hk0
      have hdone : decs x = bs := by rw [hdx, decs_zero]; rfl
      have HDONE := Lib.hid hdone
      clear hdx hN hdone
      go_wp2_with fail
      go_ret
      exact ⟨by rw [HDONE.out]; rfl, hbr⟩
    · have hkp : 0 < k := by rw [(Raw.cap hN).1]; exact digs_length_pos hy
      have hkp' : (0 : Int) < (k : Int) := by omega
      obtain ⟨V, hV, b1, hbV, hsV⟩ := boxes1 wr #[.int .u32 10] 64
      have hten : Num V (.slice (some ⟨wr.heap.size, 0, none⟩) 1 1) 10 := by rw [← hV]; unfold Num; rw [digs_one_digit (by omega) (by omega)]; exact raw_lit wr _ _ 1 _ rfl (okD_one (by omega)) rfl (by decide) rfl
      have hdv := ndivide_is (Num.below hN hbV) hten (by omega) hk
      have HDV := Lib.hid hdv
      have hdy := decs_pos hy
      rw [hdy, List.append_assoc] at hdx
      have HD2 := Lib.hid hdx
      have hlen : (strB bs).size < L := by rw [strB_size, ← HL.out, hdx]; simp; omega
      have hk2 : (digs (y / 10)).length ≤ 1000 := Nat.le_trans (digs_length_mono (Nat.div_le_self y 10)) (by rw [← (Raw.cap hN).1]; exact hk)
      clear hdv hdy hdx hN hten b1 hsV
      obtain ⟨q, hq⟩ : ∃ q, y / 10 = q := ⟨_, rfl⟩
      obtain ⟨r, hr⟩ : ∃ r, y % 10 = r := ⟨_, rfl⟩
      have hr10 : r < 10 := by omega
      rw [hq] at hk2
      have HQ := Lib.hid hq
      have HR := Lib.hid hr
      rw [hq, hr] at HDV HD2
      clear hq hr
      go_wp2_with fail
      refine HDV.out.mono ?_
      rintro e w2 ⟨B2, k2, d2, B3, k3, d3, rfl, hQ, hR, hb2⟩
      have hb3 := hbr.trans ((hbV.trans (hb2.mono hbV.size)).mono hbr.size)
      have hkq : k2 ≤ 1000 := by rw [(Raw.cap hQ).1]; exact hk2
      rcases Nat.eq_zero_or_pos r with rfl | hr0
      · have hk30 : k3 = 0 := by have h := (Raw.cap hR).1; rw [digs_zero] at h; exact h
        subst hk30
        have hcv := convert_one (d := 48) rfl (heap_alloc_new w2 (.cells #[.int .u8 48] 5)) (by omega)
        have hap : strB [48] ++ strB bs = strB (48 :: bs) := strB_append _ _
        have hsum : ¬ 9223372036854775807 < (strB [48]).size + (strB bs).size := by rw [strB_size]; simp; omega
        have hb4 := hb3.trans ((below_alloc w2 (.cells #[.int .u8 48] 5)).mono hb3.size)
        have hQ2 := Num.below hQ (below_alloc w2 (.cells #[.int .u8 48] 5))
        go_wp2_with fail
        go_roundw
        case rel => exact ⟨q, 48 :: bs, B2, k2, d2, rfl, rfl, hQ2, hkq, by rw [HD2.out]; rfl, hb4⟩
        case measure =>
          simp only [strLn]
          rw [strB_size] at hlen ⊢
          rw [strB_size, List.length_cons]
          omega
      · have hk31 : k3 = 1 := by have h := (Raw.cap hR).1; rw [digs_one_digit hr0 (by omega)] at h; exact h
        subst hk31
        obtain ⟨ad, hA, _, hc⟩ := Raw.at_ (j := 0) hR (by rw [digs_one_digit hr0 (by omega)]; simp)
        rw [digs_digit, Bs_zero, Nat.div_one, Nat.mod_eq_of_lt (by omega)] at hc
        rw [show ad.add 0 = ad from rfl] at hc
        subst hA
        obtain ⟨d0, hd0⟩ : ∃ d0, 48 + r = d0 := ⟨_, rfl⟩
        have hdi : (48 : Int) + (r : Int) = (d0 : Int) := by omega
        have hd9 : d0 < 58 := by omega
        have v1 : IntKind.u8.wrap (r : Int) = (r : Int) := by simp [IntKind.wrap, IntKind.bits, IntKind.signed]; omega
        have v2 : IntKind.u8.wrap (d0 : Int) = (d0 : Int) := by simp [IntKind.wrap, IntKind.bits, IntKind.signed]; omega
        have hcv := convert_one (d := d0) rfl (heap_alloc_new w2 (.cells #[.int .u8 (d0 : Int)] 5)) (by omega)
        have hap : strB [d0] ++ strB bs = strB (d0 :: bs) := strB_append _ _
        have hsum : ¬ 9223372036854775807 < (strB [d0]).size + (strB bs).size := by rw [strB_size]; simp; omega
        have hb4 := hb3.trans ((below_alloc w2 (.cells #[.int .u8 (d0 : Int)] 5)).mono hb3.size)
        have hQ2 := Num.below hQ (below_alloc w2 (.cells #[.int .u8 (d0 : Int)] 5))
        rw [hd0] at HD2
        clear hd0
        go_wp2_with fail
        go_roundw
        case rel => exact ⟨q, d0 :: bs, B2, k2, d2, rfl, rfl, hQ2, hkq, by rw [HD2.out]; rfl, hb4⟩
        case measure =>
          simp only [strLn]
          rw [strB_size] at hlen ⊢
          rw [strB_size, List.length_cons]
          omega
theorem text_any {A : Option Addr} {n c x : Nat} {w : World} (hX : Num w (.slice A n c) x) (hn9 : n ≤ 1000) :
    Calls Tryz.prog 57 #[.slice A n c] w fun e w' => e = .returned (.string (strB (decT x))) ∧ Below w.heap.size w w' := by
  rcases Nat.eq_zero_or_pos x with rfl | h
  · have hn0 : n = 0 := by have h := (Raw.cap hX).1; rw [digs_zero] at h; exact h
    subst hn0
    have hd : strB (decT 0) = ⟨#[48]⟩ := rfl
    rw [hd]
    go_enter Tryz.func57, Tryz.ntmps57
    go_wp2_with fail
    go_ret
    exact ⟨rfl, Below.refl _ _⟩
  · have hd : decT x = decs x := by unfold decT; rw [if_neg (by omega)]
    rw [hd]
    exact text_pos hX h hn9
end Go.Proofs.YtancgkmkbgkncaaGreatDoor
namespace Go.Proofs.YtancgkmkbgkncaaGreatDoor
open Go.RowKit

theorem decs_digits {x : Nat} (h : 0 < x) : decs x = (Lib.decDigits x).map UInt8.toNat := by
  induction x using Nat.strongRecOn with
  | ind x ih =>
    rw [Lib.decDigits, decs_pos h]
    rcases Nat.lt_or_ge x 10 with h1 | h1
    · rw [dif_pos h1, show x / 10 = 0 by omega, decs_zero, Nat.mod_eq_of_lt h1]
      simp; omega
    · rw [dif_neg (by omega), ih (x / 10) (by omega) (by omega), List.map_append]
      simp; omega
theorem appOk_any {w : World} {t : Nat} (h0 : 0 < t) (h9 : t < 18446744073709551616) (htab : Lib.TabIs Tryz.prog w "internal/strconv.uint64pow10" .u64 Lib.pow10Tab) : AppOk w t := fun W hbW => by
  have hT : Lib.TabIs Tryz.prog W "internal/strconv.uint64pow10" .u64 Lib.pow10Tab := Go.Joins.tab_stays (show Tryz.prog.globalNamed "internal/strconv.uint64pow10" = some 5 by kernel_rfl) htab hbW (Nat.le_refl _)
  have hin : Calls Tryz.prog 113 #[.slice none 0 0, .int .u64 (t : Int), .int .i64 10] W fun e W' => ∃ v, e = .returned v ∧ GrowB W' W.heap.size v (decs t) ∧ Below W.heap.size W W' := by
    have hown : W.ownsRow W.heap.size 5 1 (.slice none 0 0) 0 [] := ⟨by simp, .inl ⟨rfl, rfl⟩⟩
    have hd := decs_digits h0
    have hlen : (decs t).length = (Lib.decDigits t).length := by rw [hd, List.length_map]
    have hmap : (decs t).map bv = Lib.byteCells (Lib.decDigits t) := by
      rw [hd, List.map_map]; rfl
    have key : ∀ (e : Ending) (W' : World), (∃ v', e = .returned v' ∧ W'.ownsRow W.heap.size 5 1 v' (0 + (Lib.decDigits t).length) ([] ++ Lib.byteCells (Lib.decDigits t)) ∧ Below W.heap.size W W' ∧ Lib.OthersKept 5 none W W') → ∃ v, e = .returned v ∧ GrowB W' W.heap.size v (decs t) ∧ Below W.heap.size W W' := by
      rintro e W' ⟨v, rfl, ho, hb, _⟩
      rw [Nat.zero_add, List.nil_append, ← hlen, ← hmap] at ho
      exact ⟨v, rfl, ⟨okB_of (decs_byte t), ho⟩, hb⟩
    rcases Nat.lt_or_ge t 100 with h1 | h1
    · exact (Tryz.internal_strconv_AppendUint_10_small W.heap.size 0 t h1 _ [] W hown (Nat.le_refl _) (by omega)).mono key
    · exact (Tryz.internal_strconv_AppendUint_10_big W.heap.size 0 t h1 h9 _ [] W hown (Nat.le_refl _) (by omega) hT).mono key
  have H := Lib.hid hin
  clear hin hT htab
  go_enter Tryz.func93, Tryz.ntmps93
  go_wp2_with fail
  refine H.out.mono ?_
  rintro e W' ⟨v, rfl, hg, hb⟩
  go_wp2_with fail
  go_ret
  exact ⟨v, rfl, hg, hb⟩
theorem top9_bounds (x : Nat) (h : 0 < x) : 0 < top9 x ∧ top9 x < 1000000000 := by
  induction x using Nat.strongRecOn with
  | ind x ih =>
    rcases Nat.lt_or_ge x 1000000000 with h1 | h1
    · rw [top9_small h1]; exact ⟨h, h1⟩
    · rw [top9_big h1]; exact ih (x / 1000000000) (by omega) (by omega)
set_option maxRecDepth 100000 in
theorem format_any {A : Option Addr} {n c x : Nat} {ds : List Nat} {w : World} (hx : Raw w (.slice A n c) ds) (hvx : Hid (val ds = x)) (hl : ds.length ≤ 1000) (htab : Lib.TabIs Tryz.prog w "internal/strconv.uint64pow10" .u64 Lib.pow10Tab) :
    Calls Tryz.prog 55 #[.slice A n c] w fun e w' => e = .returned (.string (strB (decT x))) ∧ Below w.heap.size w w' := by
  rcases Nat.eq_zero_or_pos x with rfl | h0
  · have hd : strB (decT 0) = ⟨#[48]⟩ := rfl
    rw [hd]
    clear htab hd
    go_enter Tryz.func55, Tryz.ntmps55
    go_wp2_with fail
    refine (norm_is hx hvx).mono ?_
    rintro e w1 ⟨v, rfl, hg, hb⟩
    obtain ⟨B, d, rfl⟩ := hg.form
    rw [digs_zero]
    clear hg
    go_wp2_with fail
    refine wp_loop_rounds 1 ?_
    rw [rounds_succ]
    go_wp2_with fail
    go_ret
    exact ⟨rfl, hb⟩
  · have hd : decT x = decs x := by unfold decT; rw [if_neg (by omega)]
    rw [hd]
    obtain ⟨h1, h2⟩ := top9_bounds x h0
    exact format_pos hx hvx h0 (appOk_any h1 (by omega) htab) hl
theorem decs_dig (x : Nat) : ∀ b ∈ decs x, Dig b := by
  induction x using Nat.strongRecOn with
  | ind x ih =>
    rcases Nat.eq_zero_or_pos x with h | h
    · subst h; rw [decs_zero]; exact fun _ h => by cases h
    · rw [decs_pos h]
      intro b hb
      rcases List.mem_append.1 hb with hb | hb
      · exact ih (x / 10) (by omega) b hb
      · rw [List.mem_singleton] at hb; rw [hb]; exact ⟨by omega, by omega⟩
theorem decN_decs (x : Nat) : decN (decs x) = x := by
  induction x using Nat.strongRecOn with
  | ind x ih =>
    rcases Nat.eq_zero_or_pos x with h | h
    · subst h; rw [decs_zero]; rfl
    · rw [decs_pos h, decN_snoc, ih (x / 10) (by omega)]; omega
theorem decT_dig (x : Nat) : ∀ b ∈ decT x, Dig b := by
  unfold decT; split
  · intro b hb; rw [List.mem_singleton] at hb; rw [hb]; exact ⟨by omega, by omega⟩
  · exact decs_dig x
theorem decT_ne (x : Nat) : decT x ≠ [] := by
  unfold decT; split
  · simp
  · rw [decs_pos (by omega)]; simp
theorem decN_decT (x : Nat) : decN (decT x) = x := by
  unfold decT; split
  · rename_i h; subst h; rfl
  · exact decN_decs x
theorem decT_ok (x : Nat) : OkB (decT x) := fun b hb => by
  obtain ⟨_, h⟩ := decT_dig x b hb; omega
theorem decT_len {x L : Nat} (h : x < Bs L) : (decT x).length ≤ 10 * L + 1 := by
  unfold decT; split
  · simp
  · exact Nat.le_trans (decs_length (10 * L) x (Nat.lt_of_lt_of_le h (Bs_ten L))) (by omega)
end Go.Proofs.YtancgkmkbgkncaaGreatDoor
namespace Go.Proofs.YtancgkmkbgkncaaGreatDoor
open Go.RowKit

set_option maxRecDepth 100000 in
theorem parse_no {bs : List Nat} {w : World} {a : Addr} (hb : OkB bs) (hl : bs.length ≤ 1000000000) (hn : ¬ ((∀ b ∈ bs, Dig b) ∧ bs ≠ [])) (hE : w.cell? ⟨0, 0, none⟩ = some (.iface 195 (.pointer (some a)))) :
    Calls Tryz.prog 49 #[.string (strB bs)] w fun e w' => e = .returned (.tuple #[.slice none 0 0, .iface 195 (.pointer (some a))]) ∧ Below w.heap.size w w' := by
  have HO := Lib.hid (only_no (w := w) hb hl hn)
  clear hn
  go_enter Tryz.func49, Tryz.ntmps49
  go_wp2_with fail
  refine HO.out.mono ?_
  rintro e w' ⟨rfl, rfl⟩
  go_wp2_with fail
  go_quiet (fail)
  go_wp2_with fail
  go_ret2
  exact ⟨rfl, below_drewN (Below.refl _ _) _⟩
end Go.Proofs.YtancgkmkbgkncaaGreatDoor
