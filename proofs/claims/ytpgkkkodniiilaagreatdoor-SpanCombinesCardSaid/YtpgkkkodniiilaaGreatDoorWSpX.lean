/-
  WriteAll.
-/
import Derived.Test.YtpgkkkodniiilaaGreatDoorWSq
import Derived.Test.YtpgkkkodniiilaaGreatDoorWSpV
import Derived.IntWalk
import Derived.Deep.Cut
namespace Go.Proofs.YtpgkkkodniiilaaGreatDoor
open Go.RowKit
section
variable {f0 h0 f1 h1 f2 h2 f3 h3 f4 h4 f5 h5 f6 h6 f7 h7 f8 h8 f9 h9 f10 h10 f11 h11 : Bool} {A0 A1 A2 A3 A9 D0 D1 D2 D3 : Option Addr} {n0 n1 n2 n3 c0 c1 c2 c3 c9 m0 m1 m2 m3 e0 e1 e2 e3 : Nat} {s0 s1 s2 s3 : Bool} {q0 q1 q2 q3 q4 q5 q6 q7 : Rat} {z0 z1 z2 z3 z4 z5 z6 z7 z8 z9 z10 z11 : Int} {L L0 L1 x y : Nat} {k : Int} {b : Bool} {w : World}
variable {o0 o1 o2 o3 : Option Rat} {l l' : List Sp}
set_option maxRecDepth 100000 in
set_option maxHeartbeats 4000000 in
theorem writeall_v {v : Value} (hS : SrS w L v l) (hn : l.length ≤ 50000) (hL : L ≤ 1000) :
    Calls Tryz.prog 24 #[v] w fun e w' => ∃ y, e = .returned y ∧ SpS w' (max L 1) y l ∧ Below w.heap.size w w' := by
  obtain ⟨A, c, rfl, hc1, hc2⟩ := hS.form
  unfold maxLen at hc2
  go_enter Tryz.func24, Tryz.ntmps24
  go_wp2_with fail
  go_loopw [3, 8] (fun t3 t8 wr => ∃ (i : Nat) (A9 : Option Addr) (c9 : Nat) (css : List (List Value)), i ≤ l.length ∧ t8 = .int .i64 i ∧ t3 = .slice A9 css.length c9 ∧ OwnE wr w.heap.size 32 8 (.slice A9 css.length c9) css ∧ SpL wr (max L 1) css (l.take i) ∧ Below w.heap.size w wr) (fun _ t8 _ => l.length - (intOf t8).toNat)
  case atStart => exact ⟨0, none, 0, [], Nat.zero_le _, rfl, rfl, OwnE.nil _ _ _ _, trivial, Below.refl _ _⟩
  case round =>
    obtain ⟨i, A9, c9, css, hi, rfl, rfl, hown, hall, H0⟩ := hrel
    have hcl : css.length ≤ i := by have h1 := All2.len hall; have h3 : (l.take i).length ≤ i := List.length_take_le _ _; omega
    by_cases hlt : i < l.length
    · obtain ⟨sp, hsp⟩ : ∃ s, l[i]? = some s := ⟨_, List.getElem?_eq_getElem hlt⟩
      obtain ⟨g, o, s0, A0, n0, c0, D0, m0, e0, s1, A1, n1, c1, D1, m1, e1, f0, h0, rfl, cc0, cc1, cc2, cc3, cc4, cc5, cc6, cc7, y0, y1⟩ := (hS.below H0).elem hsp
      have HSP : Hid (l.take (i + 1) = l.take i ++ [sp]) := Lib.hid (by rw [List.take_add_one, hsp]; rfl)
      clear hS hsp
      obtain ⟨W0, hW, b5, hbW, hsz⟩ := boxes1 wr #[.bool s0, .slice A0 n0 c0, .slice D0 m0 e0, .bool s1, .slice A1 n1 c1, .slice D1 m1 e1, .bool f0, .bool h0] 39
      clear hsz
      replace hown := hown.below hbW
      replace hall := hall.below hbW
      replace y0 := y0.below hbW
      replace y1 := y1.below hbW
      replace H0 := H0.trans (hbW.mono H0.size)
      obtain ⟨x0, x1, x2, x3, x4, x5, x6, x7⟩ := b5.cells8
      go_wp2_with fail
      clear hW hbW b5 x0 cc0 x1 cc1 x2 cc2 x3 cc3 x4 cc4 x5 cc5 x6 cc6 x7 cc7
      refine (write_v y0 y1 (by omega)).mono ?_
      rintro e w2 ⟨s2, A2, n2, c2, D2, m2, e2, s3, A3, n3, c3, D3, m3, e3, f1, h1, rfl, k0, k1, hb⟩
      replace hown := hown.below hb
      replace hall := hall.below hb
      replace H0 := H0.trans (hb.mono H0.size)
      clear hb y0 y1
      have hq1 : ([.bool s2, .slice A2 n2 c2, .slice D2 m2 e2, .bool s3, .slice A3 n3 c3, .slice D3 m3 e3, .bool f1, .bool h1] : List Value).all (fun u => u.oneCell' && notInt u) = true := by simp [notInt, Value.oneCell']
      have ln1 : css.length ≤ 100000 := by omega
      have lB1 : w.heap.size ≤ w2.heap.size := H0.size
      go_wp2_with (at_builtin; refine wpList_append_row (v := .slice A9 css.length c9) (css := css) rfl _ _ rfl elem_span w.heap.size [.bool s2, .slice A2 n2 c2, .slice D2 m2 e2, .bool s3, .slice A3 n3 c3, .slice D3 m3 e3, .bool f1, .bool h1] rfl hown rfl rfl hq1 ln1 lB1 ?_; intro v1 w3 hown1 hg1)
      have hall1 : SpL w3 (max L 1) (css ++ [([.bool s2, .slice A2 n2 c2, .slice D2 m2 e2, .bool s3, .slice A3 n3 c3, .slice D3 m3 e3, .bool f1, .bool h1] : List Value)]) (l.take i ++ [sp]) := All2.snoc (SpL.own (v := .slice A9 css.length c9) hall hown.2.2 hg1) ⟨_, _, _, _, _, _, _, _, _, _, _, _, _, _, _, _, rfl, k0.own hown hg1, k1.own hown hg1⟩
      have H01 := H0.trans (hown.trod hg1 lB1)
      generalize css ++ [([.bool s2, .slice A2 n2 c2, .slice D2 m2 e2, .bool s3, .slice A3 n3 c3, .slice D3 m3 e3, .bool f1, .bool h1] : List Value)] = cs1_ at hown1 hall1
      obtain ⟨A1_, c1_, rfl, hx1, hx2⟩ := hown1.form
      clear hx1 hx2 hown hall k0 k1 hg1 H0 ln1 lB1 hcl
      go_wp2_with fail
      go_roundw
      case rel => exact ⟨i + 1, _, _, _, by omega, by go_num, rfl, hown1, by rw [HSP.out]; exact hall1, H01⟩
      case measure => simp [intOf]; omega
    · obtain rfl : i = l.length := by omega
      clear hS
      rw [List.take_length] at hall
      go_wp2_with fail
      go_ret
      exact ⟨_, rfl, ⟨_, hown.read, hall⟩, H0⟩
end
end Go.Proofs.YtpgkkkodniiilaaGreatDoor
