/-
  errors.Is: of no error; of a wrapped sentinel and the sentinel.
-/
import Derived.Test.YtkhfadfjkmhpgaaGreatDoorIs
namespace Go.Proofs.YtkhfadfjkmhpgaaGreatDoor
open Go.RowKit Go.Extern.Stop Go.Stop Go.Extern

set_option maxRecDepth 100000 in
theorem is_nil (v : Value) (t : TypeId) (w : World) :
    Calls Tryz.prog 49 #[.nilIface, .iface t v] w fun e w' => e = .returned (.bool false) ∧ w' = w := by
  have heq := fun (w : World) => run_eql_iface_nil_left (P := Tryz.prog) w t v Tryz.underlying68
  go_enter Tryz.func49, Tryz.ntmps49
  go_wp2
  go_ret
  exact ⟨rfl, rfl⟩
theorem Tryz.noIsP (v : Value) (x : TypeId) (w : World) : (Instr.typeAssert (.iface 120 v) x 162 true).run Tryz.prog w = .ok (.tuple #[.nilIface, .bool false]) w := run_typeAssert_lacksB Tryz.underlying162 (by kernel_rfl) (by kernel_rfl) v x w
theorem Tryz.unwrapP (v : Value) (x : TypeId) (w : World) : (Instr.typeAssert (.iface 120 v) x 165 true).run Tryz.prog w = .ok (.tuple #[.iface 120 v, .bool true]) w := run_typeAssert_hasB Tryz.underlying165 (by kernel_rfl) v x w
theorem Tryz.methodP (v : Value) (w : World) : (Go.method 336 120 v "Unwrap").run Tryz.prog w = .ok (182, v) w := by kernel_rfl
set_option maxRecDepth 100000 in
theorem is_part (s : ByteArray) (a : Addr) (w : World) :
    Calls Tryz.prog 49 #[.iface 120 (.agg #[.string s, .iface 199 (.pointer (some a))]), .iface 199 (.pointer (some a))] w fun e w' => e = .returned (.bool true) ∧ Below w.heap.size w w' := by
  obtain ⟨i, hi, hcmp⟩ := Option.map_eq_some_iff.1 Tryz.isComp
  obtain ⟨j, hj, hjs⟩ := Option.map_eq_some_iff.1 Tryz.isSize
  have h8 := @run_callFunc_extern Tryz.prog 94 _ Extern.ReflectliteType.typeOf Tryz.func94 (by kernel_rfl) (by kernel_rfl) (by kernel_rfl) (by kernel_rfl)
  have h32 := @run_callFunc_extern Tryz.prog 186 _ (Extern.ReflectliteType.method fun t => do Extern.Rtype.noPackHeld "Comparable" t; pure (.bool (← typeInfo t).comparable)) Tryz.func186 (by kernel_rfl) (by kernel_rfl) (by kernel_rfl) (by kernel_rfl)
  have tT := Tryz.isTypeOf
  have cT := Tryz.isComparable
  have mR := Tryz.isMethodComparable
  have nP := Tryz.noIsP
  have uP := Tryz.unwrapP
  have mP := Tryz.methodP
  have heq := fun (w : World) => run_eql_iface_ptr_same (P := Tryz.prog) w a Tryz.underlying68 Tryz.underlying199 hi hcmp hj
  have hne := fun (vx vy : Value) (w : World) => run_eql_iface_types (P := Tryz.prog) 120 199 vx vy Tryz.underlying68 (by decide) w
  go_enter Tryz.func49, Tryz.ntmps49
  go_wp2
  refine wp_loop_rounds 2 ?_
  rw [rounds_succ]
  go_wp2
  rw [rounds_succ]
  go_wp2
  go_ret
  exact ⟨rfl, below_alloc w _⟩
end Go.Proofs.YtkhfadfjkmhpgaaGreatDoor
