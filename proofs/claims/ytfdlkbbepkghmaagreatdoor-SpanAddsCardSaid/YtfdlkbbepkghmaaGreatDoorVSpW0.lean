/-
  Sets beside the tape.
-/
import Derived.Test.YtfdlkbbepkghmaaGreatDoorVBox
import Derived.Test.YtfdlkbbepkghmaaGreatDoorVDivLong
import Derived.Test.YtfdlkbbepkghmaaGreatDoorVFormI
import Derived.Test.YtfdlkbbepkghmaaGreatDoorVK1
import Derived.Test.YtfdlkbbepkghmaaGreatDoorVK2
import Derived.Test.YtfdlkbbepkghmaaGreatDoorVK3
import Derived.Test.YtfdlkbbepkghmaaGreatDoorVK4
import Derived.Test.YtfdlkbbepkghmaaGreatDoorVK5
import Derived.Test.YtfdlkbbepkghmaaGreatDoorVK6
import Derived.Test.YtfdlkbbepkghmaaGreatDoorVK7
import Derived.Test.YtfdlkbbepkghmaaGreatDoorVK8
import Derived.Test.YtfdlkbbepkghmaaGreatDoorVK9
import Derived.Test.YtfdlkbbepkghmaaGreatDoorVN1
import Derived.Test.YtfdlkbbepkghmaaGreatDoorVOrd
import Derived.Test.YtfdlkbbepkghmaaGreatDoorVPP
import Derived.Test.YtfdlkbbepkghmaaGreatDoorVR1
import Derived.Test.YtfdlkbbepkghmaaGreatDoorVRA
import Derived.Test.YtfdlkbbepkghmaaGreatDoorVRatD
import Derived.Test.YtfdlkbbepkghmaaGreatDoorVRatO
import Derived.Test.YtfdlkbbepkghmaaGreatDoorVRatR
import Derived.Test.YtfdlkbbepkghmaaGreatDoorVRatS
import Derived.Test.YtfdlkbbepkghmaaGreatDoorVS1
import Derived.Test.YtfdlkbbepkghmaaGreatDoorVSA
import Derived.Test.YtfdlkbbepkghmaaGreatDoorVSG
import Derived.Test.YtfdlkbbepkghmaaGreatDoorVShelf
import Derived.Test.YtfdlkbbepkghmaaGreatDoorVSpH
import Derived.Test.YtfdlkbbepkghmaaGreatDoorVSpI
import Derived.Test.YtfdlkbbepkghmaaGreatDoorVSpJ
import Derived.Test.YtfdlkbbepkghmaaGreatDoorVSpK
import Derived.Test.YtfdlkbbepkghmaaGreatDoorVSpM
import Derived.Test.YtfdlkbbepkghmaaGreatDoorVSpN
import Derived.Test.YtfdlkbbepkghmaaGreatDoorVSpT
import Derived.Test.YtfdlkbbepkghmaaGreatDoorVSpU
import Derived.Test.YtfdlkbbepkghmaaGreatDoorVSpV
import Derived.Test.YtfdlkbbepkghmaaGreatDoorVSpX
import Derived.Test.YtfdlkbbepkghmaaGreatDoorVSpY
import Derived.Test.YtfdlkbbepkghmaaGreatDoorVSpZ
import Derived.Test.YtfdlkbbepkghmaaGreatDoorVTT
import Derived.IntWalk
import Derived.Deep.Cut
namespace Go.Proofs.YtfdlkbbepkghmaaGreatDoor
open Go.RowKit

section
variable {f0 h0 f1 h1 f2 h2 f3 h3 f4 h4 f5 h5 f6 h6 f7 h7 f8 h8 f9 h9 f10 h10 f11 h11 : Bool}  {e1 e2 : Nat}  {q0 q1 q2 q3 q4 q5 q6 q7 : Rat} {z0 z1 z2 z3 z4 z5 z6 z7 z8 z9 z10 z11 : Int} {L L0 L1 x y : Nat} {k : Int} {w : World}
variable {o0 o1 o2 o3 : Option Rat} {l l' : List Sp}
theorem tape_ne {b g o : Nat} {s : Bool} (ht : Tape w b) (h : w.cell? ⟨g, o, none⟩ = some (.bool s)) : g ≠ b := by
  rintro rfl
  obtain ⟨A, n, c, t, hb, _⟩ := ht
  rw [cell_of_row w g o _ _ _ hb] at h
  match o, h with
  | 0, h => cases h
  | 1, h => cases h
  | o + 2, h => cases h
theorem ReadR.tape {w' : World} {b k : Nat} {v : Value} {css : List (List Value)} (h : ReadR w k v css) (ht : Tape w b) (hg : w.grownBy w' (some b)) (hb : ∀ cs ∈ css, ∃ s, cs[0]? = some (.bool s)) : ReadR w' k v css := by
  obtain ⟨h1, A, c, h2, h3, h4, h5⟩ := h
  refine ⟨h1, A, c, h2, h3, h4, fun h0 => ?_⟩
  obtain ⟨g, o, e1, h6⟩ := h5 h0
  have hne : g ≠ b := by
    cases css with
    | nil => exact absurd rfl h0
    | cons cs css =>
      obtain ⟨s, hs⟩ := hb cs (List.mem_cons_self ..)
      exact tape_ne ht (h6 0 cs rfl 0 _ hs)
  refine ⟨g, o, e1, fun i cs hi j x hx => ?_⟩
  have h8 := h6 i cs hi j x hx
  have hlt := World.block_lt_of_cell? w _ h8
  exact (World.cell?_of_block (a := ⟨g, o + (i * k + j), none⟩) (hg.block g hlt (fun he => by injection he with he; exact hne he))).trans h8
theorem raw0_any {w' : World} {v : Value} (h : Raw w v []) : Raw w' v [] := by
  obtain ⟨h1, h2, A, c, e, hc, _⟩ := h
  exact ⟨h1, h2, A, c, e, hc, fun j hj => (by simp at hj)⟩
theorem EndV.tape {w' : World} {b : Nat} {s : Bool} {y u : Value} {no : Bool} {o : Option Rat} (h : EndV w L s y u no o) (ht : Tape w b) (hg : w.grownBy w' (some b)) : EndV w' L s y u no o := by
  rcases h with ⟨h1, q, h2, h3⟩ | ⟨h1, h2, h3, h4, h5⟩
  · exact .inl ⟨h1, q, h2, ⟨h3.1.tape ht hg, h3.2.tape ht hg⟩⟩
  · exact .inr ⟨h1, h2, h3, raw0_any h4, raw0_any h5⟩
theorem SpE.tape {w' : World} {b : Nat} {cs : List Value} {s : Sp} (h : SpE w L cs s) (ht : Tape w b) (hg : w.grownBy w' (some b)) : SpE w' L cs s := by
  obtain ⟨x0, x1, x2, x3, x4, x5, x6, x7, x8, x9, x10, x11, x12, x13, x14, x15, e, k1, k2⟩ := h
  exact ⟨x0, x1, x2, x3, x4, x5, x6, x7, x8, x9, x10, x11, x12, x13, x14, x15, e, k1.tape ht hg, k2.tape ht hg⟩
theorem SpS.tape {w' : World} {b : Nat} {v : Value} (h : SpS w L v l) (ht : Tape w b) (hg : w.grownBy w' (some b)) : SpS w' L v l := by
  obtain ⟨css, h1, h2⟩ := h
  refine ⟨css, h1.tape ht hg fun cs hcs => ?_, h2.mono fun _ _ r => r.tape ht hg⟩
  obtain ⟨q, _, _, _, _, _, _, _, _, _, _, _, _, _, _, _, _, rfl, _⟩ := All2.mem h2 cs hcs
  exact ⟨_, rfl⟩
theorem SetV.tape {w' : World} {b : Nat} {v : Value} {g : Bool} {ts : List Rat} (h : SetV w L v g ts) (ht : Tape w b) (hg : w.grownBy w' (some b)) : SetV w' L v g ts := ⟨h.1.tape ht hg, h.2⟩
theorem SrS.nil (w : World) (L : Nat) : SrS w L (.slice none 0 0) [] := ⟨[], (OwnE.nil w 0 39 8).read, trivial⟩
/-- Two sets in memory with the same numbers are one and the same. -/
theorem SetV.same {v v' : Value} {g g' : Bool} {ts us : List Rat} (h : SetV w L v g ts) (h' : SetV w L0 v' g' us) (l : List Rat) (he : ∀ x, x ∉ l → x ∉ ts → x ∉ us → evT g ts x = evT g' us x) : SetV w L0 v' g ts := by
  obtain ⟨e1, e2⟩ := uniq l h.2 h'.2 he
  subst e1 e2
  exact h'
theorem evT_nil (b : Bool) (x : Rat) : evT b [] x = b := rfl
end
end Go.Proofs.YtfdlkbbepkghmaaGreatDoor
