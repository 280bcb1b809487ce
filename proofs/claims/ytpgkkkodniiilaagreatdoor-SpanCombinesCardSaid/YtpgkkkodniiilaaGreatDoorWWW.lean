/-
  SpW0, SpW in one text.
-/
import Derived.Test.YtpgkkkodniiilaaGreatDoorWSpS
import Derived.Test.YtpgkkkodniiilaaGreatDoorWSpZ
import Derived.IntWalk
import Derived.Deep.Cut
namespace Go.Proofs.YtpgkkkodniiilaaGreatDoor
open Go.RowKit
section
variable {f0 h0 f1 h1 f2 h2 f3 h3 f4 h4 f5 h5 f6 h6 f7 h7 f8 h8 f9 h9 f10 h10 f11 h11 : Bool}  {e1 : Nat}  {q0 q1 q2 q3 q4 q5 q6 q7 : Rat} {z0 z1 z2 z3 z4 z5 z6 z7 z8 z9 z10 z11 : Int} {L L0 L1 x y : Nat} {k : Int} {w : World}
variable {o0 o1 o2 o3 : Option Rat} {l l' : List Sp}
theorem tape_ne {b g o : Nat} {s : Bool} (ht : Tape w b) (h : w.cell? ⟨g, o, none⟩ = some (.bool s)) : g ≠ b := by
  rintro rfl
  obtain ⟨A, n, c, t, hb, _⟩ := ht
  rw [cell_of_row w g o _ _ _ hb] at h
  match o, h with
  | 0, h => cases h
  | 1, h => cases h
  | o + 2, h => cases h
theorem ReadR.tape {w' : World} {b k : Nat} {v : Value} {css : List (List Value)} (h : ReadR w k v css) (ht : Tape w b) (hg : w.grownBy w' (some b)) (hb : ∀ cs ∈ css, ∃ s, cs[0]? = some (.bool s)) : ReadR w' k v css := by
  obtain ⟨h1, A, c, h2, h3, h4, h5⟩ := h
  refine ⟨h1, A, c, h2, h3, h4, fun h0 => ?_⟩
  obtain ⟨g, o, e1, h6⟩ := h5 h0
  have hne : g ≠ b := by
    cases css with
    | nil => exact absurd rfl h0
    | cons cs css =>
      obtain ⟨s, hs⟩ := hb cs (List.mem_cons_self ..)
      exact tape_ne ht (h6 0 cs rfl 0 _ hs)
  refine ⟨g, o, e1, fun i cs hi j x hx => ?_⟩
  have h8 := h6 i cs hi j x hx
  have hlt := World.block_lt_of_cell? w _ h8
  exact (World.cell?_of_block (a := ⟨g, o + (i * k + j), none⟩) (hg.block g hlt (fun he => by injection he with he; exact hne he))).trans h8
theorem SrS.nil (w : World) (L : Nat) : SrS w L (.slice none 0 0) [] := ⟨[], (OwnE.nil w 0 39 8).read, trivial⟩
end
end Go.Proofs.YtpgkkkodniiilaaGreatDoor
namespace Go.Proofs.YtpgkkkodniiilaaGreatDoor
open Go.RowKit
section
variable {f0 h0 f1 h1 f2 h2 f3 h3 f4 h4 f5 h5 f6 h6 f7 h7 f8 h8 f9 h9 f10 h10 f11 h11 : Bool}  {e1 : Nat}  {q0 q1 q2 q3 q4 q5 q6 q7 : Rat} {z0 z1 z2 z3 z4 z5 z6 z7 z8 z9 z10 z11 : Int} {L L0 L1 x y : Nat} {k : Int} {w : World}
variable {o0 o1 o2 o3 : Option Rat} {l l' : List Sp}
set_option maxRecDepth 100000 in
set_option maxHeartbeats 4000000 in
theorem smade_v {b : Nat} (hT : Tape w b) (hb : b < w.heap.size) :
    Calls Tryz.prog 23 #[.pointer (some ⟨b, 0, none⟩)] w fun e w' => ∃ v g ts, e = .returned v ∧ SrS w' 5 v (spansOf g ts) ∧ Asc ts ∧ ts.length ≤ 8 ∧ Tape w' b ∧ w.grownBy w' (some b) := by
  go_enter Tryz.func23, Tryz.ntmps23
  go_wp2_with fail
  have G0 : w.grownBy w (some b) := ⟨rfl, rfl, rfl, Nat.le_refl _, fun _ _ _ => rfl⟩
  have hlt := hb
  refine (ss4_v hT hlt).mono ?_
  rintro e w0 ⟨v1, l, rfl, hS, hO, hn, hT', hg⟩
  replace hlt := Nat.lt_of_lt_of_le hlt hg.size
  replace G0 := only_trans G0 hg
  clear hT
  have hT := hT'
  clear hT' hg
  go_wp2_with fail
  refine (combine_or hS (SrS.nil _ 5) (by simp; omega) (by decide)).mono ?_
  rintro e w1 ⟨y, rfl, hF, hb⟩
  replace hS := hS.below hb
  replace hT := hT.keep hb hlt
  replace hlt := Nat.lt_of_lt_of_le hlt hb.size
  replace G0 := only_below G0 hb G0.size
  clear hb
  obtain ⟨p, ps, hp, -⟩ := probes_cons (endsT [] (l ++ []))
  obtain ⟨g, ts, e1, ha, hm, hl, hev⟩ := combine_sem (a := l) (b := []) (fun x y => x || y) hp
  rw [e1] at hF
  go_wp2_with fail
  go_ret
  exact ⟨_, g, ts, rfl, hF, ha, by simp at hl; omega, hT, G0⟩
end
end Go.Proofs.YtpgkkkodniiilaaGreatDoor
