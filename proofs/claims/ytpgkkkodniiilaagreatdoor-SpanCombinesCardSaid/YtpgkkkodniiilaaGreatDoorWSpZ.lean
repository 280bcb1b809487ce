/-
  Spans of the tape.
-/
import Derived.Test.YtpgkkkodniiilaaGreatDoorWPP
import Derived.Test.YtpgkkkodniiilaaGreatDoorWSpT
import Derived.IntWalk
import Derived.Deep.Cut
namespace Go.Proofs.YtpgkkkodniiilaaGreatDoor
open Go.RowKit
section
variable {f0 h0 f1 h1 f2 h2 f3 h3 f4 h4 f5 h5 f6 h6 f7 h7 f8 h8 f9 h9 f10 h10 f11 h11 : Bool} {A0 A1 A9 D0 D1 : Option Addr} {n0 n1 c0 c1 c9 m0 m1 e0 e1 : Nat} {s0 s1 s6 : Bool} {q0 q1 q2 q3 q4 q5 q6 q7 : Rat} {z0 z1 z2 z3 z4 z5 z6 z7 z8 z9 z10 z11 : Int} {L L0 L1 x y : Nat} {k : Int} {w : World}
variable {o0 o1 o2 o3 : Option Rat} {l l' : List Sp}
set_option maxRecDepth 100000 in
set_option maxHeartbeats 4000000 in
theorem ss4_v {b : Nat} (hT : Tape w b) (hb : b < w.heap.size) :
    Calls Tryz.prog 22 #[.pointer (some ⟨b, 0, none⟩), .int .i64 4] w fun e w' => ∃ v, ∃ l : List Sp, e = .returned v ∧ SrS w' 5 v l ∧ OkS l ∧ l.length ≤ 4 ∧ Tape w' b ∧ w.grownBy w' (some b) := by
  go_enter Tryz.func22, Tryz.ntmps22
  go_wp2_with fail
  have G0 : w.grownBy w (some b) := ⟨rfl, rfl, rfl, Nat.le_refl _, fun _ _ _ => rfl⟩
  have hlt := hb
  refine (next_any 5 (by omega) (by omega) hT).mono ?_
  rintro e w0 ⟨r, rfl, hr, hT', hg⟩
  replace hlt := Nat.lt_of_lt_of_le hlt hg.size
  replace G0 := only_trans G0 hg
  clear hT
  have hT := hT'
  clear hT' hg
  go_wp2_with fail
  have HR := Lib.hid hr
  clear hr
  go_loopw [5, 6] (fun t5 t6 wr => ∃ (r' : Nat) (A9 : Option Addr) (c9 : Nat) (css : List (List Value)) (l : List Sp), l.length + r' = r ∧ t6 = .int .i64 (r' : Int) ∧ t5 = .slice A9 css.length c9 ∧ OwnE wr w.heap.size 39 8 (.slice A9 css.length c9) css ∧ SrL wr 5 css l ∧ OkS l ∧ Tape wr b ∧ w.grownBy wr (some b) ∧ b < wr.heap.size) (fun _ t6 _ => (intOf t6).toNat)
  case atStart => exact ⟨r, none, 0, [], [], by simp, rfl, rfl, OwnE.nil _ _ _ _, trivial, fun s h => (by cases h), hT, G0, hlt⟩
  case round =>
    clear hT G0 hlt
    obtain ⟨r', A9, c9, css, l, hlr, rfl, rfl, hown, hall, hok, hT, G0, hlt⟩ := hrel
    have hcl : css.length ≤ 100 := by have h1 := All2.len hall; have := HR.out; omega
    have HOK := Lib.hid hok
    have HLR := Lib.hid hlr
    clear hok
    by_cases hp : 0 < r'
    · obtain ⟨k, rfl⟩ : ∃ k, r' = k + 1 := ⟨r' - 1, by omega⟩
      have el0 : decide ((0 : Int) < ((k + 1 : Nat) : Int)) = true := decide_eq_true (by omega)
      have hw9 : IntKind.i64.wrap (((k + 1 : Nat) : Int) - 1) = (k : Int) := by rw [IntWalk.i64_in _ (by have := HR.out; omega)]; omega
      have hwj : IntKind.i64.wrap (k : Int) = (k : Int) := IntWalk.i64_in _ (by have := HR.out; omega)
      clear hlr hp
      have hnb : ∀ {x : Value} {cs : List (List Value)} {wx : World}, OwnE wx w.heap.size 39 8 x cs → x.ownBlock ≠ some b := fun h => h.ne hb
      go_wp2_with fail
      refine (ts_v hT hlt).mono ?_
      rintro e w2 ⟨sp, s0, A0, n0, c0, D0, m0, e0, s1, A1, n1, c1, D1, m1, e1, f0, h0, rfl, hsp, y0, y1, hT', hg⟩
      replace hown := hown.kept hg (.inr (hnb hown))
      replace hall := hall.tape hT hg
      replace hlt := Nat.lt_of_lt_of_le hlt hg.size
      replace G0 := only_trans G0 hg
      clear hT
      have hT := hT'
      clear hT' hg
      have hq1 : ([.bool s0, .slice A0 n0 c0, .slice D0 m0 e0, .bool s1, .slice A1 n1 c1, .slice D1 m1 e1, .bool f0, .bool h0] : List Value).all (fun u => u.oneCell' && notInt u) = true := by simp [notInt, Value.oneCell']
      have ln1 : css.length ≤ 100000 := by omega
      have lB1 : w.heap.size ≤ w2.heap.size := G0.size
      go_wp2_with (at_builtin; refine wpList_append_row (v := .slice A9 css.length c9) (css := css) rfl _ _ rfl elem_s6 w.heap.size [.bool s0, .slice A0 n0 c0, .slice D0 m0 e0, .bool s1, .slice A1 n1 c1, .slice D1 m1 e1, .bool f0, .bool h0] rfl hown rfl rfl hq1 ln1 lB1 ?_; intro v1 w3 hown1 hg1)
      have hall1 : SrL w3 5 (css ++ [([.bool s0, .slice A0 n0 c0, .slice D0 m0 e0, .bool s1, .slice A1 n1 c1, .slice D1 m1 e1, .bool f0, .bool h0] : List Value)]) (l ++ [sp]) := All2.snoc (hall.own hown hg1) ⟨_, _, _, _, _, _, _, _, _, _, _, _, _, _, _, _, rfl, y0.own hown hg1, y1.own hown hg1⟩
      have hbT := hown.trod hg1 lB1
      replace hT := hT.keep hbT hb
      replace G0 := only_below G0 hbT (Nat.le_refl _)
      replace hlt := Nat.lt_of_lt_of_le hlt hbT.size
      clear hown hall y0 y1 hg1 hbT hq1 ln1 lB1 hcl
      generalize css ++ [([.bool s0, .slice A0 n0 c0, .slice D0 m0 e0, .bool s1, .slice A1 n1 c1, .slice D1 m1 e1, .bool f0, .bool h0] : List Value)] = cs1_ at hown1 hall1
      obtain ⟨A1_, c1_, rfl, hx1, hx2⟩ := hown1.form
      clear hx1 hx2
      go_wp2_with fail
      go_roundw
      case rel => exact ⟨k, _, _, _, l ++ [sp], by have := HLR.out; simp; omega, by first | rfl | rw [hw9], rfl, hown1, hall1, fun s hs => (List.mem_append.1 hs).elim (HOK.out s) (fun h => by have := List.mem_singleton.1 h; subst this; exact hsp), hT, G0, hlt⟩
      case measure => simp [intOf]
    · obtain rfl : r' = 0 := by omega
      have el0 : decide ((0 : Int) < ((0 : Nat) : Int)) = false := by decide
      go_wp2_with fail
      go_ret
      exact ⟨_, l, rfl, ⟨_, hown.read, hall⟩, HOK.out, by have := HLR.out; have := HR.out; omega, hT, G0⟩
end
end Go.Proofs.YtpgkkkodniiilaaGreatDoor
