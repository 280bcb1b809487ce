/-
  made of the laws of spans.
-/
import Derived.Test.YtfdlkbbepkghmaaGreatDoorVBox
import Derived.Test.YtfdlkbbepkghmaaGreatDoorVDivLong
import Derived.Test.YtfdlkbbepkghmaaGreatDoorVFormI
import Derived.Test.YtfdlkbbepkghmaaGreatDoorVK1
import Derived.Test.YtfdlkbbepkghmaaGreatDoorVK2
import Derived.Test.YtfdlkbbepkghmaaGreatDoorVK3
import Derived.Test.YtfdlkbbepkghmaaGreatDoorVK4
import Derived.Test.YtfdlkbbepkghmaaGreatDoorVK5
import Derived.Test.YtfdlkbbepkghmaaGreatDoorVK6
import Derived.Test.YtfdlkbbepkghmaaGreatDoorVK7
import Derived.Test.YtfdlkbbepkghmaaGreatDoorVK8
import Derived.Test.YtfdlkbbepkghmaaGreatDoorVK9
import Derived.Test.YtfdlkbbepkghmaaGreatDoorVN1
import Derived.Test.YtfdlkbbepkghmaaGreatDoorVOrd
import Derived.Test.YtfdlkbbepkghmaaGreatDoorVPP
import Derived.Test.YtfdlkbbepkghmaaGreatDoorVR1
import Derived.Test.YtfdlkbbepkghmaaGreatDoorVRA
import Derived.Test.YtfdlkbbepkghmaaGreatDoorVRatD
import Derived.Test.YtfdlkbbepkghmaaGreatDoorVRatO
import Derived.Test.YtfdlkbbepkghmaaGreatDoorVRatR
import Derived.Test.YtfdlkbbepkghmaaGreatDoorVRatS
import Derived.Test.YtfdlkbbepkghmaaGreatDoorVS1
import Derived.Test.YtfdlkbbepkghmaaGreatDoorVSA
import Derived.Test.YtfdlkbbepkghmaaGreatDoorVSG
import Derived.Test.YtfdlkbbepkghmaaGreatDoorVShelf
import Derived.Test.YtfdlkbbepkghmaaGreatDoorVSpH
import Derived.Test.YtfdlkbbepkghmaaGreatDoorVSpI
import Derived.Test.YtfdlkbbepkghmaaGreatDoorVSpJ
import Derived.Test.YtfdlkbbepkghmaaGreatDoorVSpK
import Derived.Test.YtfdlkbbepkghmaaGreatDoorVSpM
import Derived.Test.YtfdlkbbepkghmaaGreatDoorVSpN
import Derived.Test.YtfdlkbbepkghmaaGreatDoorVSpP
import Derived.Test.YtfdlkbbepkghmaaGreatDoorVSpQ
import Derived.Test.YtfdlkbbepkghmaaGreatDoorVSpR
import Derived.Test.YtfdlkbbepkghmaaGreatDoorVSpS
import Derived.Test.YtfdlkbbepkghmaaGreatDoorVSpT
import Derived.Test.YtfdlkbbepkghmaaGreatDoorVSpU
import Derived.Test.YtfdlkbbepkghmaaGreatDoorVSpV
import Derived.Test.YtfdlkbbepkghmaaGreatDoorVSpW0
import Derived.Test.YtfdlkbbepkghmaaGreatDoorVSpX
import Derived.Test.YtfdlkbbepkghmaaGreatDoorVSpY
import Derived.Test.YtfdlkbbepkghmaaGreatDoorVSpZ
import Derived.Test.YtfdlkbbepkghmaaGreatDoorVTT
import Derived.IntWalk
import Derived.Deep.Cut
namespace Go.Proofs.YtfdlkbbepkghmaaGreatDoor
open Go.RowKit

section
variable {f0 h0 f1 h1 f2 h2 f3 h3 f4 h4 f5 h5 f6 h6 f7 h7 f8 h8 f9 h9 f10 h10 f11 h11 : Bool}  {e1 : Nat}  {q0 q1 q2 q3 q4 q5 q6 q7 : Rat} {z0 z1 z2 z3 z4 z5 z6 z7 z8 z9 z10 z11 : Int} {L L0 L1 x y : Nat} {k : Int} {w : World}
variable {o0 o1 o2 o3 : Option Rat} {l l' : List Sp}
set_option maxRecDepth 100000 in
set_option maxHeartbeats 4000000 in
theorem smade_v {b : Nat} (hT : Tape w b) (hb : b < w.heap.size) :
    Calls Tryz.prog 23 #[.pointer (some ⟨b, 0, none⟩)] w fun e w' => ∃ v g ts, e = .returned v ∧ SrS w' 5 v (spansOf g ts) ∧ Asc ts ∧ ts.length ≤ 8 ∧ Tape w' b ∧ w.grownBy w' (some b) := by
  go_enter Tryz.func23, Tryz.ntmps23
  go_wp2_with fail
  have G0 : w.grownBy w (some b) := ⟨rfl, rfl, rfl, Nat.le_refl _, fun _ _ _ => rfl⟩
  have hlt := hb
  refine (ss4_v hT hlt).mono ?_
  rintro e w0 ⟨v1, l, rfl, hS, hO, hn, hT', hg⟩
  replace hlt := Nat.lt_of_lt_of_le hlt hg.size
  replace G0 := only_trans G0 hg
  clear hT
  have hT := hT'
  clear hT' hg
  go_wp2_with fail
  refine (combine_or hS (SrS.nil _ 5) (by simp; omega) (by decide)).mono ?_
  rintro e w1 ⟨y, rfl, hF, hb⟩
  replace hS := hS.below hb
  replace hT := hT.keep hb hlt
  replace hlt := Nat.lt_of_lt_of_le hlt hb.size
  replace G0 := only_below G0 hb G0.size
  clear hb
  obtain ⟨p, ps, hp, -⟩ := probes_cons (endsT [] (l ++ []))
  obtain ⟨g, ts, e1, ha, hm, hl, hev⟩ := combine_sem (a := l) (b := []) (fun x y => x || y) hp
  rw [e1] at hF
  go_wp2_with fail
  go_ret
  exact ⟨_, g, ts, rfl, hF, ha, by simp at hl; omega, hT, G0⟩
end
end Go.Proofs.YtfdlkbbepkghmaaGreatDoor
