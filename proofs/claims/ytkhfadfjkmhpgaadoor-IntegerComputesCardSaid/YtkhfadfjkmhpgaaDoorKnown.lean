/-
  known: the chapter's first examples.
-/
import Derived.Test.YtkhfadfjkmhpgaaDoorFormat
import Derived.Test.YtkhfadfjkmhpgaaDoorAdd
import Derived.Test.YtkhfadfjkmhpgaaDoorSame
import Derived.Test.YtkhfadfjkmhpgaaDoorDivMod1
namespace Go.Proofs.YtkhfadfjkmhpgaaDoor
open Go.RowKit

set_option maxRecDepth 100000 in
theorem small4 (W : World) : Calls Tryd.prog 79 #[.int .i64 4] W fun e W' => e = .returned (.string ⟨#[52]⟩) ∧ W = W' := by
  go_enter Tryd.func79, Tryd.ntmps79
  go_wp2_with fail
  go_ret
  exact ⟨rfl, rfl⟩
theorem app_grow (W : World) : GrowB ((W.alloc (.cells (#[Value.int .u8 52] ++ Builtin.zeroCells #[Value.int .u8 0] (grownCap W 1 0 5 - 1)) 5)).drew) W.heap.size (.slice (some ⟨W.heap.size, 0, none⟩) 1 (grownCap W 1 0 5)) [52] := by
  have h1 := grownCap_ge W 1 0 5
  have h2 := grownCap_le_maxLen W 1 0 5 (by simp only [maxLen]; omega)
  refine ⟨okB_one (by omega), by simp, .inr ⟨W.heap.size, _, _, rfl, Nat.le_refl _, heap_alloc_new W _, h1, h2, ?_, ?_⟩⟩
  · simp [size_zeroCells]; omega
  · simp [bv]
set_option maxRecDepth 100000 in
theorem inapp4 (W : World) : Calls Tryd.prog 78 #[.slice none 0 0, .int .u64 4, .int .i64 10] W fun e W' => ∃ v, e = .returned v ∧ GrowB W' W.heap.size v [52] ∧ Below W.heap.size W W' := by
  have H := Lib.hid (app_grow W)
  go_enter Tryd.func78, Tryd.ntmps78
  go_wp2_with fail
  refine (small4 _).mono ?_
  rintro e W' ⟨rfl, rfl⟩
  go_wp2_with fail
  go_ret
  exact ⟨_, rfl, H.out, (below_alloc W _).drew⟩
theorem app4 (w : World) : AppOk w 4 := fun W _ => by
  have hd : decs 4 = [52] := by rw [decs_pos (by omega), show 4 / 10 = 0 from rfl, decs_zero]; rfl
  rw [hd]
  have H := Lib.hid (inapp4 W)
  clear hd
  go_enter Tryd.func76, Tryd.ntmps76
  go_wp2_with fail
  refine H.out.mono ?_
  rintro e W' ⟨v, rfl, hg, hb⟩
  go_wp2_with fail
  go_ret
  exact ⟨v, rfl, hg, hb⟩

theorem same_true {A A' : Option Addr} {n n' c c' : Nat} {ds : List Nat} {w : World} (hx : Raw w (.slice A n c) ds) (hy : Raw w (.slice A' n' c') ds) :
    Calls Tryd.prog 11 #[.slice A n c, .slice A' n' c'] w fun e w' => e = .returned (.bool true) ∧ ∃ j, w' = w.drewN j := by
  have := same_any hx hy
  simpa using this

theorem digs_b32 : digs 4294967296 = [0, 1] := by
  rw [digs_pos (by omega), show 4294967296 % 4294967296 = 0 from rfl, show 4294967296 / 4294967296 = 1 from rfl, digs_one_digit (by omega) (by omega)]
theorem decs_b32 : decs 4294967296 = [52, 50, 57, 52, 57, 54, 55, 50, 57, 54] := by
  have h1 : decs 4 = [52] := by rw [decs_pos (by omega), show 4 / 10 = 0 from rfl, decs_zero]; rfl
  have := decs_split 9 294967296 4 (by decide) (by omega)
  rw [show 294967296 + 10 ^ 9 * 4 = 4294967296 from rfl, h1] at this
  rw [this]; rfl

theorem raw_lit (w : World) (cs : Array Value) (ds : List Nat) (n b : Nat) (h : cs.toList = ds.map dv) (hd : OkD ds) (hn : n = ds.length) (hl : n ≤ 1000) (hb : b = w.heap.size) : Raw (w.alloc (.cells cs 68)) (.slice (some ⟨b, 0, none⟩) n n) ds := by
  subst hb
  exact (own_lit w cs ds h).raw_all hd (by omega) n n hn (Nat.le_refl _)

end Go.Proofs.YtkhfadfjkmhpgaaDoor
