/-
  inverse; the operations.
-/
import Derived.Test.YtfdlkbbepkghmaaGreatDoorVSq
import Derived.Test.YtfdlkbbepkghmaaGreatDoorVBox
import Derived.Test.YtfdlkbbepkghmaaGreatDoorVDivLong
import Derived.Test.YtfdlkbbepkghmaaGreatDoorVFormI
import Derived.Test.YtfdlkbbepkghmaaGreatDoorVK1
import Derived.Test.YtfdlkbbepkghmaaGreatDoorVK2
import Derived.Test.YtfdlkbbepkghmaaGreatDoorVK3
import Derived.Test.YtfdlkbbepkghmaaGreatDoorVK4
import Derived.Test.YtfdlkbbepkghmaaGreatDoorVK5
import Derived.Test.YtfdlkbbepkghmaaGreatDoorVK6
import Derived.Test.YtfdlkbbepkghmaaGreatDoorVK7
import Derived.Test.YtfdlkbbepkghmaaGreatDoorVK8
import Derived.Test.YtfdlkbbepkghmaaGreatDoorVK9
import Derived.Test.YtfdlkbbepkghmaaGreatDoorVN1
import Derived.Test.YtfdlkbbepkghmaaGreatDoorVOrd
import Derived.Test.YtfdlkbbepkghmaaGreatDoorVR1
import Derived.Test.YtfdlkbbepkghmaaGreatDoorVRA
import Derived.Test.YtfdlkbbepkghmaaGreatDoorVRatD
import Derived.Test.YtfdlkbbepkghmaaGreatDoorVRatR
import Derived.Test.YtfdlkbbepkghmaaGreatDoorVRatS
import Derived.Test.YtfdlkbbepkghmaaGreatDoorVS1
import Derived.Test.YtfdlkbbepkghmaaGreatDoorVSA
import Derived.Test.YtfdlkbbepkghmaaGreatDoorVSG
import Derived.Test.YtfdlkbbepkghmaaGreatDoorVShelf
import Derived.Test.YtfdlkbbepkghmaaGreatDoorVSpH
import Derived.Test.YtfdlkbbepkghmaaGreatDoorVSpM
import Derived.IntWalk
import Derived.Deep.Cut
namespace Go.Proofs.YtfdlkbbepkghmaaGreatDoor
open Go.RowKit

section
variable {f0 h0 f1 h1 f2 h2 f3 h3 f4 h4 f5 h5 f6 h6 f7 h7 f8 h8 f9 h9 f10 h10 f11 h11 : Bool} {A0 A1 A9 D0 : Option Addr} {n0 c0 c1 c9 m0 e0 e1 e2 e3 : Nat} {s0 : Bool} {q0 q1 q2 q3 q4 q5 q6 q7 : Rat} {z0 z1 z2 z3 z4 z5 z6 z7 z8 z9 z10 z11 : Int} {L L0 L1 x y : Nat} {k : Int} {b : Bool} {w : World}
variable {o0 o1 o2 o3 : Option Rat} {l l' : List Sp}
set_option maxRecDepth 100000 in
set_option maxHeartbeats 4000000 in
theorem inverse_v {v : Value} {oc : Int} {l : List (Rat × Int)} (hT : TalV w L v oc l) (hU : Unit1 l) (hn : l.length ≤ 20000) (ho1 : -1000 ≤ oc) (ho2 : oc ≤ 1000) :
    Calls Tryz.prog 53 #[v] w fun e w' => ∃ y, e = .returned y ∧ TalV w' L y (1 - oc) (negE l) ∧ Below w.heap.size w w' := by
  obtain ⟨A, n, c, rfl, hE⟩ := hT
  obtain ⟨A', c', e1, hc1, hc2⟩ := hE.form
  injection e1 with e1 e2 e3
  subst e1 e2 e3
  unfold maxLen at hc2
  have hwo : IntKind.i64.wrap (1 - oc) = 1 - oc := IntWalk.i64_in _ (by omega)
  obtain ⟨V1, hV, b1, br, hbV, hszV⟩ := boxes2 w #[.int .i64 oc, .slice A l.length c] #[.int .i64 0, .slice none 0 0] 93 93
  go_enter Tryz.func53, Tryz.ntmps53
  go_upto_region 1 with fail
  clear hV
  have x0 := b1.cell 0 _ rfl
  go_upto_region 2 with fail
  clear x0 hwo
  obtain ⟨V0, hW, bc, hbW, hszW⟩ := boxes1 V1 #[.int .i64 (1 - oc), .slice none 0 0] 93
  rw [hszV] at bc
  have br := br.below hbW
  have b1' := b1.below hbW
  have hbV := hbV.trans (hbW.mono hbV.size)
  first | rw [hW] | (rw [hszV] at hW; rw [hW]) | skip
  have x2 := b1'.cell 1 _ rfl
  clear hW hszW b1 hbW
  clear hszV
  go_wp2_with fail
  clear x2 b1'
  go_loopw [13] (fun t8 wr => ∃ (i : Nat) (A9 : Option Addr) (c9 : Nat) (css : List (List Value)), i ≤ l.length ∧ t8 = .int .i64 i ∧ Box wr (w.heap.size + 2) #[.int .i64 (1 - oc), .slice A9 css.length c9] 93 ∧ Box wr (w.heap.size + 1) #[.int .i64 0, .slice none 0 0] 93 ∧ OwnE wr (w.heap.size + 3) 133 4 (.slice A9 css.length c9) css ∧ EnL wr L css (negE (l.take i)) ∧ Below w.heap.size w wr) (fun t8 _ => l.length - (intOf t8).toNat)
  case atStart => exact ⟨0, none, 0, [], Nat.zero_le _, rfl, bc, br, OwnE.nil _ _ _ _, trivial, hbV⟩
  case round =>
    clear bc br hbV
    obtain ⟨i, A9, c9, css, hi, rfl, bc, br, hown, hall, H0⟩ := hrel
    have hcl : css.length ≤ i := by have h1 := All2.len hall; have h3 : (l.take i).length ≤ i := List.length_take_le _ _; unfold negE at h1; rw [List.length_map] at h1; omega
    by_cases hlt : i < l.length
    · obtain ⟨sp, hsp⟩ : ∃ s, l[i]? = some s := ⟨_, List.getElem?_eq_getElem hlt⟩
      obtain ⟨g, o, s0, A0, n0, c0, D0, m0, e0, rfl, cc0, cc1, cc2, cc3, j0⟩ := (hE.below H0).elem hsp
      have hu := hU sp (List.mem_of_getElem? hsp)
      have hwn : IntKind.i64.wrap (-sp.2) = -sp.2 := IntWalk.i64_in _ (by omega)
      have HSP : Hid (negE (l.take (i + 1)) = negE (l.take i) ++ [(sp.1, -sp.2)]) := Lib.hid (by unfold negE; rw [List.take_add_one, hsp]; simp)
      clear hE hsp
      obtain ⟨W0, hW, b5, hbW, hsz⟩ := boxes1 wr #[.bool s0, .slice A0 n0 c0, .slice D0 m0 e0, .int .i64 sp.2] 133
      have hn5 := hown.ne' (Nat.le_refl _)
      have lbc := bc.lt
      replace bc := bc.below hbW
      replace br := br.below hbW
      replace hown := hown.below hbW
      replace hall := hall.below hbW
      replace j0 := j0.below hbW
      replace H0 := H0.trans (hbW.mono H0.size)
      have ln1 : css.length ≤ 100000 := by omega
      have lB1 : w.heap.size + 3 ≤ W0.heap.size := by have := bc.lt; omega
      have hq1 : ([.bool s0, .slice A0 n0 c0, .slice D0 m0 e0, .int .i64 (-sp.2)] : List Value).all (fun u => u.oneCell' && notInt u) = true := by simp [notInt, Value.oneCell']
      have x0 := b5.cell 0 _ rfl
      have x1 := b5.cell 1 _ rfl
      have x2 := b5.cell 2 _ rfl
      have x3 := b5.cell 3 _ rfl
      obtain ⟨y0, y1⟩ := bc.cells2
      clear hsz
      go_wp2_with (at_builtin; refine wpList_append_row (v := .slice A9 css.length c9) (css := css) rfl _ _ rfl elem_end (w.heap.size + 3) [.bool s0, .slice A0 n0 c0, .slice D0 m0 e0, .int .i64 (-sp.2)] rfl hown rfl rfl hq1 ln1 lB1 ?_; intro v1 w1 hown1 hg1; have bc1 := bc.own hg1 (hown.ne (by omega)); have hall1 := EnL.snoc (z := -sp.2) (hall.own hown hg1) (j0.own hown hg1); generalize css ++ [([.bool s0, .slice A0 n0 c0, .slice D0 m0 e0, .int .i64 (-sp.2)] : List Value)] = cs1_ at hown1 hall1; obtain ⟨A1_, c1_, rfl, hc_, hm_⟩ := hown1.form; clear hc_ hm_; have z0 := bc1.cell 0 _ rfl; have z1 := bc1.cell 1 _ rfl; have zf1 := bc1.frozen 1)
      clear x0 x1 x2 x3 y0 y1 hW hbW cc0 cc1 cc2 cc3
      have br1 := br.own hg1 (hown.ne (by omega))
      have H01 := H0.trans ((hown.trod hg1 lB1).mono (by omega))
      clear hall hown br b5 j0 bc hg1 lB1 ln1 H0 hn5
      have hg : w1.grownBy _ (some (w.heap.size + 2)) := only_setCell w1 ⟨w.heap.size + 2, 1, none⟩ (.slice A1_ cs1_.length c1_)
      have hB : Box _ _ #[.int .i64 (1 - oc), .slice A1_ cs1_.length c1_] _ := bc1.step 1 (.slice A1_ cs1_.length c1_)
      generalize hX : w1.setCell ⟨w.heap.size + 2, 1, none⟩ (.slice A1_ cs1_.length c1_) = X1 at hg hB ⊢
      clear hX
      have br := br1.other hg (by omega)
      have hown := hown1.box bc1 hg (hown1.ne (by omega))
      have hall := hall1.kept bc1 (by simp [notInt]) hg
      have H0 := below_only H01 hg (by omega) H01.size
      clear hg bc1 br1 hown1 hall1 H01
      go_wp2_with fail
      go_roundw
      case rel => exact ⟨i + 1, _, _, _, by omega, by go_num, hB, br, hown, by rw [HSP.out]; exact hall, H0⟩
      case measure => simp [intOf]; omega
    · obtain rfl : i = l.length := by omega
      clear hE
      rw [List.take_length] at hall
      go_upto_region 7 with fail
      obtain ⟨y0, y1⟩ := bc.cells2
      obtain ⟨z0, z1⟩ := br.cells2
      have f0 := br.frozen 0
      have f1 := br.frozen 1
      go_wp2_with fail
      clear y0 y1 z0 z1 f0 f1
      have hg := only_store wr (w.heap.size + 1) (.int .i64 (1 - oc)) (.slice A9 css.length c9)
      have hB := br.stored (.int .i64 (1 - oc)) (.slice A9 css.length c9)
      have hX := hown.box br hg (hown.ne (by omega))
      have hY := hall.kept br (by simp [notInt]) hg
      refine bodyPost_ret (ret_tally rfl rfl hB) rfl ?_
      exact ⟨_, rfl, ⟨_, _, _, rfl, _, hX.read, hY⟩, below_only H0 hg (by omega) H0.size⟩
end
end Go.Proofs.YtfdlkbbepkghmaaGreatDoor
