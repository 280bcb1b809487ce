/-
  known: the chapter's first examples.
-/
import Derived.Test.YtpbfecbhdfnacaaDoorFormat
import Derived.Test.YtpbfecbhdfnacaaDoorAdd
import Derived.Test.YtpbfecbhdfnacaaDoorSame
import Derived.Test.YtpbfecbhdfnacaaDoorDivMod1
namespace Go.Proofs.YtpbfecbhdfnacaaDoor
open Go.RowKit

set_option maxRecDepth 100000 in
theorem small4 (W : World) : Calls Tryd.prog 88 #[.int .i64 4] W fun e W' => e = .returned (.string ⟨#[52]⟩) ∧ W = W' := by
  go_enter Tryd.func88, Tryd.ntmps88
  go_wp2_with fail
  go_ret
  exact ⟨rfl, rfl⟩
theorem app_grow (W : World) : GrowB ((W.alloc (.cells (#[Value.int .u8 52] ++ Builtin.zeroCells #[Value.int .u8 0] (grownCap W 1 0 5 - 1)) 5)).drew) W.heap.size (.slice (some ⟨W.heap.size, 0, none⟩) 1 (grownCap W 1 0 5)) [52] := by
  have h1 := grownCap_ge W 1 0 5
  have h2 := grownCap_le_maxLen W 1 0 5 (by simp only [maxLen]; omega)
  refine ⟨okB_one (by omega), by simp, .inr ⟨W.heap.size, _, _, rfl, Nat.le_refl _, heap_alloc_new W _, h1, h2, ?_, ?_⟩⟩
  · simp [size_zeroCells]; omega
  · simp [bv]
set_option maxRecDepth 100000 in
theorem inapp4 (W : World) : Calls Tryd.prog 86 #[.slice none 0 0, .int .u64 4, .int .i64 10] W fun e W' => ∃ v, e = .returned v ∧ GrowB W' W.heap.size v [52] ∧ Below W.heap.size W W' := by
  have H := Lib.hid (app_grow W)
  go_enter Tryd.func86, Tryd.ntmps86
  go_wp2_with fail
  refine (small4 _).mono ?_
  rintro e W' ⟨rfl, rfl⟩
  go_wp2_with fail
  go_ret
  exact ⟨_, rfl, H.out, (below_alloc W _).drew⟩
theorem app4 (w : World) : AppOk w 4 := fun W _ => by
  have hd : decs 4 = [52] := by rw [decs_pos (by omega), show 4 / 10 = 0 from rfl, decs_zero]; rfl
  rw [hd]
  have H := Lib.hid (inapp4 W)
  clear hd
  go_enter Tryd.func71, Tryd.ntmps71
  go_wp2_with fail
  refine H.out.mono ?_
  rintro e W' ⟨v, rfl, hg, hb⟩
  go_wp2_with fail
  go_ret
  exact ⟨v, rfl, hg, hb⟩

theorem same_true {A A' : Option Addr} {n n' c c' : Nat} {ds : List Nat} {w : World} (hx : Raw w (.slice A n c) ds) (hy : Raw w (.slice A' n' c') ds) :
    Calls Tryd.prog 18 #[.slice A n c, .slice A' n' c'] w fun e w' => e = .returned (.bool true) ∧ ∃ j, w' = w.drewN j := by
  have := same_any hx hy
  simpa using this

theorem digs_b32 : digs 4294967296 = [0, 1] := by
  rw [digs_pos (by omega), show 4294967296 % 4294967296 = 0 from rfl, show 4294967296 / 4294967296 = 1 from rfl, digs_one_digit (by omega) (by omega)]
theorem decs_b32 : decs 4294967296 = [52, 50, 57, 52, 57, 54, 55, 50, 57, 54] := by
  have h1 : decs 4 = [52] := by rw [decs_pos (by omega), show 4 / 10 = 0 from rfl, decs_zero]; rfl
  have := decs_split 9 294967296 4 (by decide) (by omega)
  rw [show 294967296 + 10 ^ 9 * 4 = 4294967296 from rfl, h1] at this
  rw [this]; rfl

theorem raw_lit (w : World) (cs : Array Value) (ds : List Nat) (n b : Nat) (h : cs.toList = ds.map dv) (hd : OkD ds) (hn : n = ds.length) (hl : n ≤ 1000) (hb : b = w.heap.size) : Raw (w.alloc (.cells cs 60)) (.slice (some ⟨b, 0, none⟩) n n) ds := by
  subst hb
  exact (own_lit w cs ds h).raw_all hd (by omega) n n hn (Nat.le_refl _)

set_option maxRecDepth 100000 in
set_option maxHeartbeats 2000000 in
theorem known_any (w : World) : Calls Tryd.prog 10 #[] w fun e w' => e = .returned (.bool true) ∧ Below w.heap.size w w' := by
  have r1 : Raw ((w.alloc (.cells #[.int .u32 4294967295] 60)).alloc (.cells #[.int .u32 1] 60)) (.slice (some ⟨w.heap.size, 0, none⟩) 1 1) [4294967295] := raw_alloc (raw_lit w _ _ 1 _ rfl (okD_one (by decide)) rfl (by decide) rfl) _
  have r2 : Raw ((w.alloc (.cells #[.int .u32 4294967295] 60)).alloc (.cells #[.int .u32 1] 60)) (.slice (some ⟨w.heap.size + 1, 0, none⟩) 1 1) [1] := raw_lit _ _ _ 1 _ rfl (okD_one (by decide)) rfl (by decide) (by simp)
  have b1 : Below w.heap.size w ((w.alloc (.cells #[.int .u32 4294967295] 60)).alloc (.cells #[.int .u32 1] 60)) := ((Below.refl _ _).alloc (Nat.le_refl _) _).alloc (by simp) _
  have e1 : val [4294967295] + val [1] = 4294967296 := by simp [val]
  obtain ⟨X, hX⟩ : ∃ X, X = 4294967296 := ⟨_, rfl⟩
  rw [← hX] at e1
  have HX := Lib.hid hX
  have E1 := Lib.hid e1
  have R1 := Lib.hid r1
  have R2 := Lib.hid r2
  clear hX e1 r1 r2
  go_enter Tryd.func10, Tryd.ntmps10
  go_wp2_with fail
  refine (add_any R1.out R2.out (by simp) (by simp)).mono ?_
  rintro e w1 ⟨B, k, d, rfl, hS, hb1⟩
  rw [E1.out] at hS
  have b2 : Below w.heap.size w w1 := b1.trans (hb1.mono b1.size)
  clear b1 hb1
  have q1 : Raw ((w1.alloc (.cells #[.int .u32 7] 60)).alloc (.cells #[.int .u32 2] 60)) (.slice (some ⟨w1.heap.size, 0, none⟩) 1 1) [7] := raw_alloc (raw_lit w1 _ _ 1 _ rfl (okD_one (by decide)) rfl (by decide) rfl) _
  have q2 : Raw ((w1.alloc (.cells #[.int .u32 7] 60)).alloc (.cells #[.int .u32 2] 60)) (.slice (some ⟨w1.heap.size + 1, 0, none⟩) 1 1) [2] := raw_lit _ _ _ 1 _ rfl (okD_one (by decide)) rfl (by decide) (by simp)
  have b3 : Below w1.heap.size w1 ((w1.alloc (.cells #[.int .u32 7] 60)).alloc (.cells #[.int .u32 2] 60)) := ((Below.refl _ _).alloc (Nat.le_refl _) _).alloc (by simp) _
  have Q1 := Lib.hid q1
  have Q2 := Lib.hid q2
  clear q1 q2
  go_wp2_with fail
  refine (divmod_digit Q1.out Q2.out (x := 7) (y := 2) (Lib.hid (by simp [val])) (Lib.hid (by simp [val])) (by omega) (by omega) (digs_length_pos (by omega))).mono ?_
  rintro e w2 ⟨B2, k2, d2, B3, k3, d3, rfl, hQ, hR, hb2⟩
  have b4 : Below w1.heap.size w1 w2 := b3.trans (hb2.mono b3.size)
  have b5 : Below w.heap.size w w2 := b2.trans (b4.mono b2.size)
  clear b3 hb2
  have hS2 := Num.below hS b4
  unfold Num at hS2 hQ hR
  rw [HX.out, digs_b32] at hS2
  rw [show 7 / 2 = 3 from rfl, digs_one_digit (by omega) (by omega)] at hQ
  rw [show 7 % 2 = 1 from rfl, digs_one_digit (by omega) (by omega)] at hR
  clear hS
  have l1 : Raw (w2.alloc (.cells #[.int .u32 0, .int .u32 1] 60)) (.slice (some ⟨w2.heap.size, 0, none⟩) 2 2) [0, 1] := raw_lit w2 _ _ 2 _ rfl (okD_two (by decide) (by decide)) rfl (by decide) rfl
  have L1 := Lib.hid l1
  clear l1
  go_wp2_with fail
  refine (same_true (raw_alloc hS2 _) L1.out).mono ?_
  rintro e w3 ⟨rfl, j3, rfl⟩
  have l2 : Raw (((w2.alloc (.cells #[.int .u32 0, .int .u32 1] 60)).drewN j3).alloc (.cells #[.int .u32 3] 60)) (.slice (some ⟨w2.heap.size + 1, 0, none⟩) 1 1) [3] := raw_lit _ _ _ 1 _ rfl (okD_one (by decide)) rfl (by decide) (by simp)
  have L2 := Lib.hid l2
  clear l2
  go_wp2_with fail
  refine (same_true (raw_alloc ((raw_alloc hQ _).drewN j3) _) L2.out).mono ?_
  rintro e w3 ⟨rfl, j4, rfl⟩
  have l3 : Raw (((((w2.alloc (.cells #[.int .u32 0, .int .u32 1] 60)).drewN j3).alloc (.cells #[.int .u32 3] 60)).drewN j4).alloc (.cells #[.int .u32 1] 60)) (.slice (some ⟨w2.heap.size + 1 + 1, 0, none⟩) 1 1) [1] := raw_lit _ _ _ 1 _ rfl (okD_one (by decide)) rfl (by decide) (by simp)
  have L3 := Lib.hid l3
  clear l3
  go_wp2_with fail
  refine (same_true (raw_alloc ((raw_alloc ((raw_alloc hR _).drewN j3) _).drewN j4) _) L3.out).mono ?_
  rintro e w3 ⟨rfl, j5, rfl⟩
  have l4 : Raw ((((((w2.alloc (.cells #[.int .u32 0, .int .u32 1] 60)).drewN j3).alloc (.cells #[.int .u32 3] 60)).drewN j4).alloc (.cells #[.int .u32 1] 60)).drewN j5) (.slice B k d) [0, 1] := (raw_alloc ((raw_alloc ((raw_alloc hS2 _).drewN j3) _).drewN j4) _).drewN j5
  have hF := format_pos l4 (x := X) (Lib.hid (by rw [HX.out]; simp [val])) (by rw [HX.out]; omega) (by rw [HX.out, top9_big (by decide), show 4294967296 / 1000000000 = 4 from rfl, top9_small (by decide)]; exact app4 _) (by simp)
  rw [HX.out, decs_b32, show strB [52, 50, 57, 52, 57, 54, 55, 50, 57, 54] = ⟨#[52, 50, 57, 52, 57, 54, 55, 50, 57, 54]⟩ from rfl] at hF
  have b6 : Below w.heap.size w ((((((w2.alloc (.cells #[.int .u32 0, .int .u32 1] 60)).drewN j3).alloc (.cells #[.int .u32 3] 60)).drewN j4).alloc (.cells #[.int .u32 1] 60)).drewN j5) :=
    below_drewN ((below_drewN ((below_drewN (b5.alloc b5.size _) j3).alloc (by simp; have := b5.size; omega) _) j4).alloc (by simp; have := b5.size; omega) _) j5
  have HF := Lib.hid hF
  clear hF l4
  go_wp2_with fail
  refine HF.out.mono ?_
  rintro e w4 ⟨rfl, hb4⟩
  have b7 := b6.trans (hb4.mono b6.size)
  go_wp2_with fail
  go_ret
  exact ⟨rfl, b7⟩
end Go.Proofs.YtpbfecbhdfnacaaDoor
